package heads

import (
	"math/rand"
	"regexp"
	"slices"
	"strings"
	"testing"

	"turnpike/words"
)

// gaveUp tells whether read panicked, and fails the test if it did so with anything but words.Wrong.
func gaveUp(t *testing.T, read func()) (up bool) {
	t.Helper()
	defer func() {
		if r := recover(); r != nil {
			if _, ok := r.(words.Wrong); !ok {
				t.Errorf("panic with %v, want a words.Wrong", r)
			}
			up = true
		}
	}()
	read()
	return false
}

func TestCut(t *testing.T) {
	a := func(n int) string { return strings.Repeat("a", n) }
	const end = "\r\n\r\n"
	for _, c := range []struct {
		all, head, rest string
		enough          bool
	}{
		{"", "", "", false}, {"abc", "", "", false}, {"a\r\n\r", "", "", false}, {"a\n\r\n\r", "", "", false}, {"\n\n", "", "", false}, {a(999), "", "", false},
		{end, end, "", true}, {"a" + end, "a" + end, "", true}, {"a" + end + "bc", "a" + end, "bc", true}, {"a" + end + end, "a" + end, end, true}, {"a\r\n" + end, "a\r\n\r\n", "\r\n", true}, {"\r" + end + "\n", "\r" + end, "\n", true},
		{a(996) + end, a(996) + end, "", true}, {a(996) + end + "x" + end, a(996) + end, "x" + end, true}, {a(997) + end, a(997) + end[:3], "", true}, {a(1000), a(1000), "", true}, {a(1001) + end, a(1000), "", true}, {a(1000) + end, a(1000), "", true},
	} {
		head, rest, enough := Cut([]byte(c.all))
		if head != c.head || string(rest) != c.rest || enough != c.enough {
			t.Errorf("Cut(%.20q of %d) = %.20q of %d, %q, %v", c.all, len(c.all), head, len(head), rest, enough)
		}
	}
}

func TestRead(t *testing.T) {
	got := Read("GET /a:b?~! HTTP/1.0\r\nHost: x y \r\nA-1:\r\n-:  : \r\n9z:~\r\nHOST:!  !\r\n\r\n")
	want := []Field{{"host", "x y"}, {"a-1", ""}, {"-", ":"}, {"9z", "~"}, {"host", "!  !"}}
	if got.Method != "GET" || got.Target != "/a:b?~!" || !slices.Equal(got.Fields, want) {
		t.Errorf("Read = %q", got)
	}
	got = Read("A x HTTP/1.1\r\n\r\n")
	if got.Method != "A" || got.Target != "x" || len(got.Fields) != 0 {
		t.Errorf("Read = %q", got)
	}
}

func TestReadGivesUp(t *testing.T) {
	for _, text := range []string{
		"", "\r\n", "\r\n\r\n", "A x HTTP/1.1", "A x HTTP/1.1\r\n", "A x HTTP/1.1\n\n", "A x HTTP/1.1\r\n\r", "A x HTTP/1.1\r\n\r\n ", "\r\nA x HTTP/1.1\r\n\r\n", strings.Repeat("A", 1000),
	} {
		if !gaveUp(t, func() { Read(text) }) {
			t.Errorf("Read(%.30q) was read", text)
		}
	}
	for _, line := range []string{
		"", " ", "A", "A x", "A x ", "A  HTTP/1.1", " x HTTP/1.1", "A x  HTTP/1.1", "A  x HTTP/1.1", " A x HTTP/1.1", "A x HTTP/1.1 ", "A x y HTTP/1.1", "A\tx HTTP/1.1", "a x HTTP/1.1", "Ab x HTTP/1.1", "A1 x HTTP/1.1", "A- x HTTP/1.1", "@ x HTTP/1.1", "[ x HTTP/1.1", "A x\t HTTP/1.1", "A \x7f HTTP/1.1", "A \x80 HTTP/1.1", "A \x1f HTTP/1.1", "A x\x00 HTTP/1.1", "A x HTTP/1.2", "A x HTTP/2", "A x http/1.1", "A x HTTP/1.1\r", "A x HTTP/1.1\n", "A x HTTP/1.10", "A x HTTP/1.",
	} {
		if !gaveUp(t, func() { Read(line + "\r\n\r\n") }) {
			t.Errorf("the first line %q was read", line)
		}
	}
	for _, line := range []string{
		"a", " ", ":", ": x", " a: x", "a : x", "a b: x", "a_b: x", "a\x00: x", "\xe1: x", "a: \t", "a: \x1f", "a: \x7f", "a: \x80", "a: x\r", "a: x\n", "a: x\ny: z", "\ra: x", "a\n: x", "no field",
	} {
		for _, text := range []string{line + "\r\n", "b: c\r\n" + line + "\r\n", line + "\r\nb: c\r\n"} {
			if !gaveUp(t, func() { Read("A x HTTP/1.1\r\n" + text + "\r\n") }) {
				t.Errorf("the field %q was read", line)
			}
		}
	}
}

func TestOnly(t *testing.T) {
	head := Read("A x HTTP/1.1\r\nOne: 1\r\nTWO: 2\r\ntwo: 3\r\nEmpty:\r\n\r\n")
	for name, want := range map[string]Field{"one": {"yes", "1"}, "empty": {"yes", ""}, "two": {"no", ""}, "none": {"no", ""}, "on": {"no", ""}} {
		value, one := head.Only(name)
		if one != (want.Name == "yes") || one && value != want.Value {
			t.Errorf("Only(%q) = %q, %v", name, value, one)
		}
	}
}

func TestReadTarget(t *testing.T) {
	for text, want := range map[string]Target{"x:0": {"x", 0}, "WWW.Example.com:443": {"www.example.com", 443}, "10.1.2.3:65535": {"10.1.2.3", 65535}, "1.a-Z:9": {"1.a-z", 9}} {
		if got := ReadTarget(text); got != want {
			t.Errorf("ReadTarget(%q) = %v", text, got)
		}
	}
	for _, text := range []string{"", ":", "x", "x:", ":1", "x:y", "x:01", "x:00", "x:65536", "x:-1", "x:+1", "x:1:2", "x:y:1", "x::1", "x:1:", "1.2.3:1", "1.2.3.256:1", "1:1", "a.1:1", ".x:1", "x.:1", "-x:1", "a_b:1", "/:1", "*:1", "10.0.0.0/8:1", "[x]:1", "x:18446744073709551617", "http://x:1"} {
		if !gaveUp(t, func() { ReadTarget(text) }) {
			t.Errorf("ReadTarget(%q) was read", text)
		}
	}
}

// The form of a right head, a second time, by means that the program does not use.
var headForm = regexp.MustCompile(`^[A-Z]+ [!-~]+ HTTP/1\.[01]\r\n([A-Za-z0-9-]+:[ -~]*\r\n)*\r\n$`)

func TestReadAgainstAReference(t *testing.T) {
	r := rand.New(rand.NewSource(3))
	const put = "AZaz09-: \r\n\t\x1f\x7f\x80!~[@`{/"
	right := 0
	for range 50000 {
		text := []byte("CONNECT a:1 HTTP/1.1\r\nA-b: c d \r\nE:\r\n\r\n")
		for range r.Intn(3) {
			at := r.Intn(len(text))
			switch c := put[r.Intn(len(put))]; r.Intn(3) {
			case 0:
				text = slices.Delete(text, at, at+1)
			case 1:
				text[at] = c
			default:
				text = slices.Insert(text, at, c)
			}
		}
		head, _, enough := Cut(text)
		if !enough {
			continue
		}
		want := headForm.MatchString(head)
		if want == gaveUp(t, func() { Read(head) }) {
			t.Fatalf("Read(%q): right is %v", head, want)
		}
		if want {
			right++
		}
	}
	if right < 10000 {
		t.Errorf("only %d right heads were tried", right)
	}
}
