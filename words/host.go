package words

import "strings"

// Bits is how many an address has.
const Bits = 32

// Address is four numbers of 0 to 255.
type Address [4]byte

// ReadAddress reads an address.
func ReadAddress(text string) Address {
	var address Address
	numbers := strings.SplitN(text, ".", len(address)+1)
	Must(len(numbers) == len(address), "an address of four numbers")
	for i, number := range numbers {
		address[i] = byte(Number(number, 255))
	}
	return address
}

// First gives the address with 0 for all behind its first n bits.
func (a Address) First(n int) Address {
	for i := range a {
		kept := min(max(n-8*i, 0), 8)
		a[i] &= 0xff << (8 - kept)
	}
	return a
}

// Host is a name or, where that is empty, an address.
type Host struct {
	Name    string
	Address Address
}

// IsAddress tells whether the host is an address.
func (h Host) IsAddress() bool { return h.Name == "" }

// ReadHost reads a host; in its name A to Z count as a to z.
func ReadHost(text string) Host {
	last := text[strings.LastIndexByte(text, '.')+1:]
	// No name ends with figures alone, and every address does.
	if All(last, IsFigure) {
		return Host{Address: ReadAddress(text)}
	}
	return Host{Name: Name(Lower(text))}
}
