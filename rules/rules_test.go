package rules

import (
	"testing"

	"turnpike/words"
)

func TestEachFieldAsksItsOwn(t *testing.T) {
	r := Read("allow ann .b.com 5-7 10079-1")
	if !r.Allow {
		t.Error("allow says no")
	}
	if !r.Tenant("ann") || r.Tenant("bob") || r.Tenant("an") || r.Tenant("anna") {
		t.Error("the tenant's field")
	}
	for name, want := range map[string]bool{"b.com": true, "a.b.com": true, "a.a.b.com": true, "ab.com": false, "com": false, "b.com.a": false, "a-b.com": false} {
		if r.Host(words.Host{Name: name}) != want {
			t.Errorf("the host's field, of %s", name)
		}
	}
	if r.Host(words.Host{}) {
		t.Error("a name fits an address")
	}
	for port, want := range map[int]bool{4: false, 5: true, 6: true, 7: true, 8: false} {
		if r.Port(port) != want {
			t.Errorf("the port's field, of %d", port)
		}
	}
	for minute, want := range map[int]bool{0: true, 1: true, 2: false, 10078: false, 10079: true} {
		if r.Minute(minute) != want {
			t.Errorf("the minute's field, of %d", minute)
		}
	}
}

func TestFitsInAllFour(t *testing.T) {
	r := Read("deny ann x 5 6-7")
	if r.Allow {
		t.Error("deny says yes")
	}
	x := words.Host{Name: "x"}
	if !r.Fits(Question{"ann", x, 5, 6}) {
		t.Error("it does not fit what it is for")
	}
	for _, q := range []Question{{"bob", x, 5, 6}, {"ann", words.Host{Name: "y"}, 5, 6}, {"ann", x, 6, 6}, {"ann", x, 5, 5}} {
		if r.Fits(q) {
			t.Errorf("it fits %v", q)
		}
	}
}

func TestRulesKeepTheirOwn(t *testing.T) {
	first, second := Read("allow ann a 1 1-1"), Read("allow bob b 2 2-2")
	if !first.Fits(Question{"ann", words.Host{Name: "a"}, 1, 1}) || !second.Fits(Question{"bob", words.Host{Name: "b"}, 2, 2}) {
		t.Error("one rule's fields are another's")
	}
}
