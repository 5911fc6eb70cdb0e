package turnpike

import (
	"strings"
	"testing"

	"turnpike/api"
)

func reloaded(t *testing.T, g *Gateway, text string) {
	t.Helper()
	if e, at := g.Reload(text); e != api.OK || at != 0 {
		t.Fatalf("P12: Reload(%.40q) = %d, %d, want OK, 0", text, e, at)
	}
}

func wantNoReload(t *testing.T, g *Gateway, text string, errno api.Errno, place int) {
	t.Helper()
	if e, at := g.Reload(text); e != errno || at != place {
		t.Fatalf("P12: Reload(%.40q) = %d, %d, want %d, %d", text, e, at, errno, place)
	}
}

// wantAllowed takes in a client that ends again, and tells whether it was let through.
func wantAllowed(t *testing.T, g *Gateway, who string, target string, want bool) {
	t.Helper()
	conn, e := g.Accept()
	if e != api.OK {
		t.Fatalf("P6: Accept: %d", e)
	}
	if !want {
		wantClient(t, g, conn, headTo(target, who), refused(conn, api.Deny)...)
		return
	}
	host, _, _ := strings.Cut(target, ":")
	wantClient(t, g, conn, headTo(target, who), dial(conn, host, 1))
	wantEndClient(t, g, conn, shutClient(conn), shutHost(conn))
}

func TestReloadPutsRulesInForce(t *testing.T) {
	g := gatewayAt(t, "allow ann x * *\n", 0)
	for _, c := range []struct {
		text           string
		ann, bob, annY bool
	}{
		{"allow bob * * *\n", false, true, false},
		{"", false, false, false},
		{"allow * x * *\n", true, true, false},
		{"deny ann x * *\nallow * * * *\n", false, true, true},
		{"allow * * * *\ndeny ann x * *\n", true, true, true},
		{"deny * * * *\n", false, false, false},
		{"allow * * * 1-10079\n", false, false, false},
		{strings.Repeat("deny bob * * *\n", 39) + "allow * * * *\n", true, false, true},
		{"allow ann y 1 0-0\n", false, false, true},
	} {
		reloaded(t, g, c.text)
		for range 2 {
			wantAllowed(t, g, annSays, "x:1", c.ann)
			wantAllowed(t, g, bobSays, "x:1", c.bob)
			wantAllowed(t, g, annSays, "y:1", c.annY)
		}
	}
}

func TestReloadOfWrongRules(t *testing.T) {
	full := strings.Repeat("deny * * * *\n", 40)
	g := gatewayAt(t, "allow ann * * *\n", 0)
	accepted(t, g, 1)
	wantClient(t, g, 1, "CONNECT x:1")
	for _, c := range []struct {
		text  string
		errno api.Errno
		at    int
	}{
		{"x", api.ErrRule, 1}, {"\n", api.ErrRule, 1}, {"deny * * * *", api.ErrRule, 1}, {"deny * * * *\ndeny * * * *", api.ErrRule, 2},
		{"deny * * * *\nallow bob * * *\nallow\n", api.ErrRule, 3}, {"deny * * * *\nallow * 10.0.0.1/8 * *\nx\n", api.ErrRule, 2}, {"deny * * * 10080-0\n", api.ErrRule, 1},
		{full + "\n", api.ErrMany, 41}, {full + "x", api.ErrMany, 41}, {full + full, api.ErrMany, 41}, {"x\n" + full, api.ErrRule, 1}, {full[:len(full)-1], api.ErrRule, 40},
		{strings.Repeat(" ", 4001), api.ErrLong, 0}, {strings.Repeat(full, 8), api.ErrLong, 0}, {strings.Repeat(" ", 4000), api.ErrRule, 1},
	} {
		wantNoReload(t, g, c.text, c.errno, c.at)
		wantAllowed(t, g, annSays, "x:1", true)
		wantAllowed(t, g, bobSays, "x:1", false)
	}
	wantClient(t, g, 1, " HTTP/1.1\r\n"+annSays+"\r\n", dial(1, "x", 1))
	// What stays is what was in force last, not what the gateway was made of.
	reloaded(t, g, "allow bob * * *\n")
	wantNoReload(t, g, "allow ann * * *\nx\n", api.ErrRule, 2)
	wantAllowed(t, g, annSays, "x:1", false)
	wantAllowed(t, g, bobSays, "x:1", true)
}

func TestReloadAnswersAsCompile(t *testing.T) {
	g := gatewayAt(t, good, 0)
	for _, text := range []string{"", good, good + good, "x", good + "x", good + "\n", "\n" + good, strings.Repeat(good, 40), strings.Repeat(good, 41), strings.Repeat("a", 4000), strings.Repeat("a", 4001), "\x00\xff\n", "allow * * * *\r\n"} {
		_, errno, place := Compile(text)
		if e, at := g.Reload(text); e != errno || at != place {
			t.Errorf("P12: Reload(%.20q) = %d, %d, and Compile: %d, %d", text, e, at, errno, place)
		}
	}
}

// Only what has no head yet is held against the rules that come.
func TestReloadLeavesWhatWasCalled(t *testing.T) {
	g := gatewayAt(t, good, 0)
	head := headTo("x:1", annSays)
	accepted(t, g, 1)
	wantClient(t, g, 1, head[:len(head)-1])
	called(t, g, 2)
	wantClient(t, g, 2, "ab")
	joined(t, g, 3)
	joined(t, g, 4)
	wantEndClient(t, g, 4, shutHost(4))
	joined(t, g, 5)
	wantEndHost(t, g, 5, shutClient(5))
	called(t, g, 6)
	reloaded(t, g, "deny * * * *\n")
	wantClient(t, g, 1, "\n", refused(1, api.Deny)...)
	wantClient(t, g, 2, "c")
	wantDialed(t, g, 2, true, toClient(2, api.Go), toHost(2, "abc"))
	wantClient(t, g, 3, "d", toHost(3, "d"))
	wantHost(t, g, 3, "e", toClient(3, "e"))
	wantNoMoreOfClient(t, g, 4)
	wantHost(t, g, 4, "f", toClient(4, "f"))
	wantEndHost(t, g, 4, shutClient(4))
	wantNothingOfHost(t, g, 5)
	wantClient(t, g, 5, "g", toHost(5, "g"))
	wantDialed(t, g, 6, false, refused(6, api.Gone)...)
	reloaded(t, g, "")
	wantHost(t, g, 2, "h", toClient(2, "h"))
	wantTick(t, g, 10, shutClient(2), shutHost(2), shutClient(3), shutHost(3), shutHost(5))
	accepted(t, g, 7)
}

func TestReloadLeavesUsersAndClock(t *testing.T) {
	g := gatewayAt(t, "", 10077)
	wantTick(t, g, 5)
	reloaded(t, g, onlyAt(2))
	wantAllowed(t, g, annSays, "x:1", true)
	wantAllowed(t, g, bobSays, "x:1", true)
	wantTick(t, g, 1)
	wantAllowed(t, g, annSays, "x:1", false)
	reloaded(t, g, onlyAt(3))
	wantAllowed(t, g, annSays, "x:1", true)
	accepted(t, g, 5)
	wantClient(t, g, 5, headTo("x:1", "Proxy-Authorization: Basic ZXZlOmU=\r\n"), refused(5, api.Who)...)
}

func TestReloadIsOfOneGateway(t *testing.T) {
	g, other := gatewayAt(t, good, 0), gatewayAt(t, good, 0)
	reloaded(t, g, "")
	wantAllowed(t, g, annSays, "x:1", false)
	wantAllowed(t, other, annSays, "x:1", true)
	wantAllowed(t, gatewayAt(t, good, 0), annSays, "x:1", true)
}
