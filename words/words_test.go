package words

import (
	"strings"
	"testing"
)

// gaveUp tells whether read panicked, and fails the test if it did so with anything but Wrong.
func gaveUp(t *testing.T, read func()) (up bool) {
	t.Helper()
	defer func() {
		if r := recover(); r != nil {
			if _, ok := r.(Wrong); !ok {
				t.Errorf("panic with %v, want a Wrong", r)
			}
			up = true
		}
	}()
	read()
	return false
}

func TestNumber(t *testing.T) {
	for text, want := range map[string]int{"0": 0, "7": 7, "10": 10, "65535": 65535} {
		if got := Number(text, 65535); got != want {
			t.Errorf("Number(%q) = %d", text, got)
		}
	}
	for _, text := range []string{"", "00", "01", "65536", "-1", "+1", " 1", "1 ", "1a", "0x1", "1_0", "\u0661", "18446744073709551617", strings.Repeat("9", 100000)} {
		if !gaveUp(t, func() { Number(text, 65535) }) {
			t.Errorf("Number(%.30q) was read", text)
		}
	}
	if !gaveUp(t, func() { Number("1", 0) }) || Number("0", 0) != 0 {
		t.Error("the bound 0 does not hold")
	}
}

func TestPort(t *testing.T) {
	if Port("0") != 0 || Port("65535") != 65535 {
		t.Error("a port is read as another")
	}
	for _, text := range []string{"", "65536", "080", "-1", "x"} {
		if !gaveUp(t, func() { Port(text) }) {
			t.Errorf("Port(%q) was read", text)
		}
	}
}

func TestKinds(t *testing.T) {
	const figures, small, great = "0123456789", "abcdefghijklmnopqrstuvwxyz", "ABCDEFGHIJKLMNOPQRSTUVWXYZ"
	for c := range 256 {
		b := byte(c)
		if IsFigure(b) != (strings.IndexByte(figures, b) >= 0) || IsSmall(b) != (strings.IndexByte(small, b) >= 0) || IsGreat(b) != (strings.IndexByte(great, b) >= 0) || IsSeen(b) != (c > 32 && c < 127) {
			t.Errorf("the byte %d is taken for one of another kind", c)
		}
	}
	if !All("", IsSeen) || !All("!~", IsSeen) || All(" ~", IsSeen) || All("! ", IsSeen) {
		t.Error("All asks not all, or more")
	}
}

func TestTenant(t *testing.T) {
	for _, text := range []string{"a", "z", "ann", "letterss"} {
		if Tenant(text) != text {
			t.Errorf("Tenant(%q) is another", text)
		}
	}
	for _, text := range []string{"", "ninelette", "Ann", "a1", "a-b", "a ", "*", "\xe1", "a\x00", "`", "{"} {
		if !gaveUp(t, func() { Tenant(text) }) {
			t.Errorf("Tenant(%q) was read", text)
		}
	}
}

func TestName(t *testing.T) {
	long := strings.Repeat("a", 20)
	for _, text := range []string{"a", "a.b.c.d.e", "1.a", "a.1b", "a-b", "a--b", "0-0.x", "1-1", long, long + "." + long + "." + long + "." + long + "." + long} {
		if Name(text) != text {
			t.Errorf("Name(%q) is another", text)
		}
	}
	for _, text := range []string{"", ".", "a.", ".a", "a..b", "1", "a.1", "1.2.3.4", "-a", "a-", "-", "a.-b", "a-.b", "A", "a_b", "a b", "a*", "\xff", "\u212a", "a.b.c.d.e.f", "a.b.c.d.e.", "a" + long, "x.a" + long, strings.Repeat(".", 1000000)} {
		if !gaveUp(t, func() { Name(text) }) {
			t.Errorf("Name(%.30q) was read", text)
		}
	}
}

func TestLower(t *testing.T) {
	var all, want []byte
	for c := range 256 {
		all = append(all, byte(c))
		if 'A' <= c && c <= 'Z' {
			c += 32
		}
		want = append(want, byte(c))
	}
	if Lower(string(all)) != string(want) {
		t.Error("Lower changes more, or less, than A to Z")
	}
	if kelvin := "\u212a"; Lower(kelvin) != kelvin {
		t.Error("Lower makes a letter of the sign for Kelvin")
	}
}

func TestAddress(t *testing.T) {
	for text, want := range map[string]Address{"0.0.0.0": {}, "1.2.3.4": {1, 2, 3, 4}, "255.255.255.255": {255, 255, 255, 255}, "10.0.100.9": {10, 0, 100, 9}} {
		if got := ReadAddress(text); got != want {
			t.Errorf("ReadAddress(%q) = %v", text, got)
		}
	}
	for _, text := range []string{"", "1", "1.2.3", "1.2.3.4.5", "1.2.3.256", "256.2.3.4", "01.2.3.4", "1.2.3.04", "1..3.4", "1.2.3.", ".1.2.3", "1.2.3.4 ", "1.2.3.-4", "1.2.3.a", "1,2,3,4", "1.2.3.4.", "4294967297.0.0.0"} {
		if !gaveUp(t, func() { ReadAddress(text) }) {
			t.Errorf("ReadAddress(%q) was read", text)
		}
	}
}

func TestFirst(t *testing.T) {
	ones := uint64(0xffffffff)
	for n := range Bits + 1 {
		kept := uint32(ones << (Bits - n))
		want := Address{byte(kept >> 24), byte(kept >> 16), byte(kept >> 8), byte(kept)}
		if got := (Address{255, 255, 255, 255}).First(n); got != want {
			t.Errorf("First(%d) = %v, want %v", n, got, want)
		}
	}
	address := Address{1, 2, 3, 4}
	if address.First(0); address != (Address{1, 2, 3, 4}) {
		t.Error("First changes its own address")
	}
}

func TestHost(t *testing.T) {
	for text, want := range map[string]Host{"x": {Name: "x"}, "WWW.Example.com": {Name: "www.example.com"}, "1.2.3.4": {Address: Address{1, 2, 3, 4}}, "1.2.3.4a": {Name: "1.2.3.4a"}, "0.0.0.0": {}} {
		if got := ReadHost(text); got != want {
			t.Errorf("ReadHost(%q) = %v", text, got)
		}
	}
	if ReadHost("x").IsAddress() || !ReadHost("0.0.0.0").IsAddress() {
		t.Error("a name is taken for an address, or the other way round")
	}
	for _, text := range []string{"", ".", "a.", ".a", "1", "a.1", "1.2.3", "1.2.3.4.5", "1.2.3.256", "1.2.3.4/32", "*", "x\n", "\u212a", "a.\u212a"} {
		if !gaveUp(t, func() { ReadHost(text) }) {
			t.Errorf("ReadHost(%q) was read", text)
		}
	}
}
