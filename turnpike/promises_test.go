package turnpike

import (
	"math/rand"
	"slices"
	"strings"
	"sync"
	"testing"

	"turnpike/api"
)

// answer is what Compile and one Decide behind it say.
type answer struct {
	errno   api.Errno
	at      int
	allowed bool
	number  int
	asked   api.Errno
}

func answerOf(text, tenant, host string, port, minute int) answer {
	p, e, at := Compile(text)
	a := answer{errno: e, at: at}
	if p != nil {
		a.allowed, a.number, a.asked = p.Decide(tenant, host, port, minute)
	}
	return a
}

func randomText(r *rand.Rand, longest int) string {
	const likely = "allow deny *./-0123456789anxAN\n\r\t\x00\xff"
	text := make([]byte, r.Intn(longest+1))
	for i := range text {
		if text[i] = likely[r.Intn(len(likely))]; r.Intn(20) == 0 {
			text[i] = byte(r.Intn(256))
		}
	}
	return string(text)
}

func TestNoCallPanics(t *testing.T) {
	r := rand.New(rand.NewSource(1))
	p := compiled(t, good+"deny ann 10.0.0.0/8 1-1023 600-60\n")
	for range 20000 {
		text := randomText(r, 60)
		q, e, at := Compile(text)
		if e != api.OK && (q != nil || at < 1) || e == api.OK && (q == nil || at != 0) {
			t.Fatalf("P1: Compile(%q) = %v, %d, %d", text, q, e, at)
		}
		yes, n, e := p.Decide(randomText(r, 10), randomText(r, 30), r.Int()-r.Int(), r.Int()-r.Int())
		if e != api.OK && (yes || n != 0) {
			t.Fatalf("P1: beside the error %d: %v, %d", e, yes, n)
		}
	}
	for _, text := range []string{strings.Repeat("\n", 4000), strings.Repeat("\n", 9000000), strings.Repeat("allow * ", 500), strings.Repeat("\xff", 4000), strings.Repeat("9", 4000)} {
		if q, e, _ := Compile(text); q != nil || e == api.OK {
			t.Errorf("P1: Compile(%.20q) gave a policy", text)
		}
	}
}

func TestAnswersHangOnArgumentsAlone(t *testing.T) {
	type call struct {
		text, tenant, host string
		port, minute       int
	}
	var calls []call
	for _, text := range []string{"", good, "deny ann x * *\n" + good, "allow ann .x 1-2 5-1\n", "deny bob 1.2.0.0/16 * *\n" + good, "wrong\n", good + "wrong", strings.Repeat(good, 41)} {
		for _, tenant := range []string{"ann", "bob", "Bob"} {
			for _, host := range []string{"x", "a.X", "1.2.3.4", "-"} {
				calls = append(calls, call{text, tenant, host, 2, 1}, call{text, tenant, host, 3, 1}, call{text, tenant, host, 2, 2})
			}
		}
	}
	var first []answer
	for _, c := range calls {
		first = append(first, answerOf(c.text, c.tenant, c.host, c.port, c.minute))
	}
	for k, c := range slices.Backward(calls) {
		if again := answerOf(c.text, c.tenant, c.host, c.port, c.minute); again != first[k] {
			t.Errorf("P2: %v: %v, and before %v", c, again, first[k])
		}
	}
	var all sync.WaitGroup
	for k, c := range calls {
		all.Go(func() {
			if again := answerOf(c.text, c.tenant, c.host, c.port, c.minute); again != first[k] {
				t.Errorf("P2: %v: %v, and before %v", c, again, first[k])
			}
		})
	}
	all.Wait()
}

func TestPoliciesStandAlone(t *testing.T) {
	yes, no := compiled(t, good), compiled(t, "deny * * * *\n")
	for range 3 {
		wantDecide(t, yes, "ann", "x", 1, 1, true, 0)
		wantDecide(t, no, "ann", "x", 1, 1, false, 0)
		wantRefused(t, yes, "", "x", 1, 1)
		wantCompile(t, "wrong\n", api.ErrRule, 1)
		if other := compiled(t, good); other == yes {
			t.Fatal("P2: two policies are one")
		}
	}
}
