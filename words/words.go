// Package words reads the words that rules, questions and heads are made of:
// numbers, tenants, names, addresses, hosts, ports.
//
// A reader gives up by panic where its text is wrong; the call that the text
// came in by recovers and answers with its own error.
package words

import (
	"strings"

	"turnpike/api"
)

// Wrong is what a reader panics with: what the text was to be.
type Wrong string

// Must gives up unless it holds.
func Must(holds bool, wanted Wrong) {
	if !holds {
		panic(wanted)
	}
}

// Number reads a number that is not above highest.
func Number(text string, highest int) int {
	Must(text != "" && All(text, IsFigure), "figures")
	Must(text == "0" || text[0] != '0', "a number without a 0 ahead of it")
	n := 0
	for i := range len(text) {
		n = n*10 + int(text[i]-'0')
		// Asked at every figure, so that no row of figures is long enough to wrap round.
		Must(n <= highest, "a number within its bound")
	}
	return n
}

// Port reads a port.
func Port(text string) int { return Number(text, api.MaxPort) }

// Tenant reads a tenant.
func Tenant(text string) string {
	Must(1 <= len(text) && len(text) <= api.MaxName, "a tenant of 1 to 8 letters")
	Must(All(text, IsSmall), "a tenant of small letters")
	return text
}

// Name reads the name of a host, in small letters.
func Name(text string) string {
	// One piece more than may be is enough to see that there are too many.
	labels := strings.SplitN(text, ".", api.MaxParts+1)
	Must(len(labels) <= api.MaxParts, "a name of 1 to 5 labels")
	for _, label := range labels {
		checkLabel(label)
	}
	Must(!All(labels[len(labels)-1], IsFigure), "a name whose last label is not of figures alone")
	return text
}

func checkLabel(text string) {
	Must(1 <= len(text) && len(text) <= api.MaxLabel, "a label of 1 to 20 bytes")
	Must(All(text, isOfLabel), "a label of small letters, figures and -")
	Must(text[0] != '-' && text[len(text)-1] != '-', "a label without - at its ends")
}

// Lower puts a to z for A to Z. (strings.ToLower would make an ASCII letter of
// some that are none, as of the sign for Kelvin.)
func Lower(text string) string {
	small := []byte(text)
	for i, c := range small {
		if IsGreat(c) {
			small[i] = c - 'A' + 'a'
		}
	}
	return string(small)
}
