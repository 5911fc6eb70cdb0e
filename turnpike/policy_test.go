package turnpike

import (
	"strings"
	"testing"

	"turnpike/api"
)

const good = "allow * * * *\n"

func compiled(t *testing.T, text string) *Policy {
	t.Helper()
	p, e, at := Compile(text)
	if p == nil || e != api.OK || at != 0 {
		t.Fatalf("P3: Compile(%q): %d, %d", text, e, at)
	}
	return p
}

func wantCompile(t *testing.T, text string, errno api.Errno, at int) {
	t.Helper()
	p, e, n := Compile(text)
	if (p != nil) != (errno == api.OK) || e != errno || n != at {
		t.Errorf("P3: Compile(%.60q): policy %v, %d, %d, want %d, %d", text, p != nil, e, n, errno, at)
	}
}

func wantDecide(t *testing.T, p *Policy, tenant, host string, port, minute int, allowed bool, number int) {
	t.Helper()
	yes, n, e := p.Decide(tenant, host, port, minute)
	if yes != allowed || n != number || e != api.OK {
		t.Errorf("P4: Decide(%q, %q, %d, %d) = %v, %d, %d, want %v, %d", tenant, host, port, minute, yes, n, e, allowed, number)
	}
}

func wantRefused(t *testing.T, p *Policy, tenant, host string, port, minute int) {
	t.Helper()
	if yes, n, e := p.Decide(tenant, host, port, minute); yes || n != 0 || e != api.ErrAsk {
		t.Errorf("P4: Decide(%.30q, %.30q, %d, %d) = %v, %d, %d, want ErrAsk", tenant, host, port, minute, yes, n, e)
	}
}

func TestCompileTakesRules(t *testing.T) {
	long := strings.Repeat("a", 20)
	longest := strings.Join([]string{long, long, long, long, long}, ".")
	for _, text := range []string{
		"", good, "deny * * * *\n", "allow a * * *\n", "allow letterss * * *\n",
		"allow * x * *\n", "allow * .x * *\n", "allow * " + longest + " * *\n", "allow * ." + longest + " * *\n", "allow * 1.a-1 * *\n",
		"allow * 0.0.0.0/0 * *\n", "allow * 10.0.0.0/8 * *\n", "allow * 128.0.0.0/1 * *\n", "allow * 255.255.255.255/32 * *\n", "allow * 10.1.2.2/31 * *\n", "allow * 10.128.0.0/9 * *\n",
		"allow * * 0 *\n", "allow * * 65535 *\n", "allow * * 0-65535 *\n", "allow * * 8-8 *\n",
		"allow * * * 0-0\n", "allow * * * 0-10079\n", "allow * * * 10079-0\n", "allow * * * 5-5\n",
	} {
		wantCompile(t, text, api.OK, 0)
	}
}

func TestCompileRefusesLines(t *testing.T) {
	for _, line := range []string{
		"", " ", "allow", "allow * * *", "allow * * * * *", "allow * * * * ", " allow * * * *", "allow  * * * *", "allow  * * *", "allow\t* * * *", "allow * * * *\r", "allow * * * *\x00", "# rule",
		"Allow * * * *", "ALLOW * * * *", "permit * * * *", "* * * * *", "allowdeny * * * *",
		"allow ninelette * * *", "allow Ann * * *", "allow a1 * * *", "allow ** * * *", "allow a* * * *",
		"allow * ** * *", "allow * . * *", "allow * ..a * *", "allow * a. * *", "allow * .a. * *", "allow * a..b * *", "allow * *.a * *", "allow * .* * *", "allow * A * *", "allow * a_b * *", "allow * -a * *", "allow * a- * *", "allow * a.b.c.d.e.f * *", "allow * .a.b.c.d.e.f * *", "allow * " + strings.Repeat("a", 21) + " * *", "allow * a.1 * *", "allow * 1 * *", "allow * .1 * *",
		"allow * 10.0.0.0 * *", "allow * .10.0.0.0 * *", "allow * .10.0.0.0/8 * *", "allow * 10.0.0.1/8 * *", "allow * 0.0.0.1/0 * *", "allow * 10.1.2.3/31 * *", "allow * 10.64.0.0/9 * *", "allow * 10.0.0.0/33 * *", "allow * 10.0.0.0/08 * *", "allow * 10.0.0.0/ * *", "allow * /8 * *", "allow * 10.0.0.0/8/8 * *", "allow * 10.0.0.0/-1 * *", "allow * 10.0.0/8 * *", "allow * 10.0.0.0.0/8 * *", "allow * 256.0.0.0/8 * *", "allow * 010.0.0.0/8 * *", "allow * a/8 * *", "allow * */8 * *",
		"allow * * 9-8 *", "allow * * 080 *", "allow * * 00 *", "allow * * 65536 *", "allow * * 0-65536 *", "allow * * 1- *", "allow * * -1 *", "allow * * - *", "allow * * 1-2-3 *", "allow * * *-5 *", "allow * * +1 *", "allow * * x *", "allow * * 18446744073709551617 *", "allow * * 1-01 *",
		"allow * * * 5", "allow * * * 0-10080", "allow * * * 10080-0", "allow * * * 00-1", "allow * * * 1-", "allow * * * -1", "allow * * * -", "allow * * * 1-2-3", "allow * * * *-*", "allow * * * 18446744073709551617-1",
	} {
		wantCompile(t, line+"\n", api.ErrRule, 1)
		wantCompile(t, good+good+line+"\n"+good+"wrong\n", api.ErrRule, 3)
	}
}

func TestCompileAsksForTheEndOfALine(t *testing.T) {
	wantCompile(t, "allow * * * *", api.ErrRule, 1)
	wantCompile(t, good+"allow * * * *", api.ErrRule, 2)
	wantCompile(t, good+"\n", api.ErrRule, 2)
	wantCompile(t, "\n"+good, api.ErrRule, 1)
	wantCompile(t, strings.Repeat(good, 39)+"allow * * * *", api.ErrRule, 40)
}

func TestCompileKeepsItsBounds(t *testing.T) {
	wantCompile(t, strings.Repeat(good, 40), api.OK, 0)
	wantCompile(t, strings.Repeat(good, 41), api.ErrMany, 41)
	wantCompile(t, strings.Repeat(good, 60), api.ErrMany, 41)
	wantCompile(t, strings.Repeat(" ", 4000), api.ErrRule, 1)
	wantCompile(t, strings.Repeat(" ", 4001), api.ErrLong, 0)

	label := strings.Repeat("a", 20)
	name := strings.Join([]string{label, label, label, label, "aaa"}, ".")
	whole := strings.Repeat("allow * "+name+" * *\n", 40)
	if len(whole) != 4000 {
		t.Fatalf("a text of %d bytes", len(whole))
	}
	wantCompile(t, whole, api.OK, 0)
	wantCompile(t, strings.Replace(whole, "allow *", "allow bb", 1), api.ErrLong, 0)
}

func TestCompileNamesTheFirstError(t *testing.T) {
	wantCompile(t, strings.Repeat("wrong\n", 700), api.ErrLong, 0)
	wantCompile(t, strings.Repeat(good, 300), api.ErrLong, 0)
	wantCompile(t, strings.Repeat(good, 39)+"wrong\n"+good, api.ErrRule, 40)
	wantCompile(t, strings.Repeat(good, 40)+"wrong\n", api.ErrMany, 41)
	wantCompile(t, strings.Repeat(good, 40)+"x", api.ErrMany, 41)
	wantCompile(t, strings.Repeat(good, 40)+"\n", api.ErrMany, 41)
	wantCompile(t, "wrong\n"+strings.Repeat(good, 60), api.ErrRule, 1)
}

func TestDecideExamples(t *testing.T) {
	p := compiled(t, "allow * .example.com 443 *\n")
	wantDecide(t, p, "ann", "www.Example.COM", 443, 5, true, 0)
	wantDecide(t, p, "ann", "example.com", 443, 5, true, 0)
	wantDecide(t, p, "ann", "notexample.com", 443, 5, false, -1)
	wantRefused(t, p, "Ann", "www.Example.COM", 443, 5)
	p = compiled(t, "deny ann 10.0.0.0/8 1-1023 600-60\nallow * .example.com 443 *\n")
	wantDecide(t, p, "ann", "10.1.2.3", 80, 0, false, 0)
	wantDecide(t, p, "ann", "10.1.2.3", 80, 61, false, -1)
	wantDecide(t, p, "ann", "www.Example.COM", 443, 5, true, 1)
}

func TestDecideTakesTheFirstThatFits(t *testing.T) {
	p := compiled(t, "deny ann x 1 5-5\nallow ann x 1 5-6\ndeny ann x 1-2 *\nallow ann x * *\ndeny ann * * *\nallow * * * *\n")
	wantDecide(t, p, "ann", "x", 1, 5, false, 0)
	wantDecide(t, p, "ann", "x", 1, 6, true, 1)
	wantDecide(t, p, "ann", "x", 1, 7, false, 2)
	wantDecide(t, p, "ann", "x", 3, 7, true, 3)
	wantDecide(t, p, "ann", "y", 3, 7, false, 4)
	wantDecide(t, p, "bob", "y", 3, 7, true, 5)

	p = compiled(t, strings.Repeat("deny ann * * *\n", 39)+good)
	wantDecide(t, p, "bob", "x", 0, 0, true, 39)
	wantDecide(t, p, "ann", "x", 0, 0, false, 0)
	wantDecide(t, compiled(t, ""), "ann", "x", 0, 0, false, -1)
}

func TestDecideHosts(t *testing.T) {
	for _, c := range []struct {
		field, host string
		fits        bool
	}{
		{"*", "x", true}, {"*", "1.2.3.4", true},
		{"a.b", "a.b", true}, {"a.b", "A.B", true}, {"a-z", "A-Z", true}, {"a.b", "x.a.b", false}, {"a.b", "a.b.a", false}, {"a.b", "b", false},
		{".b.com", "b.com", true}, {".b.com", "B.Com", true}, {".b.com", "a.b.com", true}, {".b.com", "a.b.c.b.com", true}, {".b.com", "b.com.b.com", true}, {".b.com", "ab.com", false}, {".b.com", "com", false}, {".b.com", "b.com.org", false}, {".b.com", "1.2.3.4", false},
		{"0.0.0.0/0", "255.255.255.255", true}, {"0.0.0.0/0", "x.com", false}, {"0.0.0.0/32", "0.0.0.0", true}, {"0.0.0.0/32", "x", false},
		{"10.0.0.0/8", "10.255.255.255", true}, {"10.0.0.0/8", "11.0.0.0", false}, {"10.0.0.0/8", "9.255.255.255", false},
		{"10.128.0.0/9", "10.128.0.0", true}, {"10.128.0.0/9", "10.127.255.255", false},
		{"10.1.2.2/31", "10.1.2.3", true}, {"10.1.2.2/31", "10.1.2.1", false}, {"10.1.2.2/31", "10.1.2.4", false}, {"10.1.2.3/32", "10.1.2.3", true}, {"10.1.2.3/32", "10.1.2.2", false},
		{"128.0.0.0/1", "128.0.0.0", true}, {"128.0.0.0/1", "127.255.255.255", false},
	} {
		number := -1
		if c.fits {
			number = 0
		}
		wantDecide(t, compiled(t, "allow * "+c.field+" * *\n"), "ann", c.host, 1, 1, c.fits, number)
	}
}

func TestDecidePortsAndMinutes(t *testing.T) {
	for field, fits := range map[string]func(n int) bool{
		"*": func(n int) bool { return true }, "0": func(n int) bool { return n == 0 }, "65535": func(n int) bool { return n == 65535 },
		"9-9": func(n int) bool { return n == 9 }, "1-1023": func(n int) bool { return 1 <= n && n <= 1023 },
	} {
		p := compiled(t, "deny * * "+field+" *\nallow * * * *\n")
		for port := range api.MaxPort + 1 {
			if yes, _, e := p.Decide("ann", "x", port, 0); yes == fits(port) || e != api.OK {
				t.Fatalf("P4: ports %s, port %d", field, port)
			}
		}
	}
	for field, fits := range map[string]func(n int) bool{
		"*": func(n int) bool { return true }, "0-0": func(n int) bool { return n == 0 }, "0-10079": func(n int) bool { return true }, "10079-0": func(n int) bool { return n == 10079 || n == 0 },
		"600-60": func(n int) bool { return n >= 600 || n <= 60 }, "60-600": func(n int) bool { return 60 <= n && n <= 600 }, "61-60": func(n int) bool { return true },
	} {
		p := compiled(t, "deny * * * "+field+"\nallow * * * *\n")
		for minute := range api.Minutes {
			if yes, _, e := p.Decide("ann", "x", 1, minute); yes == fits(minute) || e != api.OK {
				t.Fatalf("P4: minutes %s, minute %d", field, minute)
			}
		}
	}
}

func TestDecideRefusesQuestions(t *testing.T) {
	for _, text := range []string{"", good, "deny * * * *\n"} {
		p := compiled(t, text)
		for _, tenant := range []string{"", "*", "Ann", "a1", "ninelette", "a b", "ann\n", "\xff", strings.Repeat("a", 1000000)} {
			wantRefused(t, p, tenant, "x", 1, 1)
		}
		for _, host := range []string{"", "*", ".", ".a", "a.", "a..b", "-a", "a-", "a_b", "1", "a.1", "1.2.3", "1.2.3.4.5", "1.2.3.256", "01.2.3.4", "1.2.3.4/32", "a.b.c.d.e.f", strings.Repeat("a", 21), "x\n", " x", "x:1", "\xff", "\u212a", "\u0130.com", strings.Repeat("a.", 1000000), strings.Repeat("1", 1000000)} {
			wantRefused(t, p, "ann", host, 1, 1)
		}
		for _, port := range []int{-1, 65536, most, least} {
			wantRefused(t, p, "ann", "x", port, 1)
		}
		for _, minute := range []int{-1, 10080, most, least} {
			wantRefused(t, p, "ann", "x", 1, minute)
		}
		wantRefused(t, p, "", "", -1, -1)
	}
	p := compiled(t, good)
	wantDecide(t, p, "letterss", "1.A."+strings.Repeat("B", 20)+".c-D.e5", 65535, 10079, true, 0)
	wantDecide(t, p, "a", "0.0.0.0", 0, 0, true, 0)
	wantDecide(t, p, "a", "255.255.255.255", 0, 0, true, 0)
}
