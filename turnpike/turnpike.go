// Package turnpike: a gateway that lets connections through by rules: see DOC.md.
package turnpike

import (
	"strings"

	"turnpike/api"
	"turnpike/rules"
)

// Policy is rules.
type Policy struct {
	rules []rules.Rule
}

// Compile reads rules (P3).
func Compile(text string) (*Policy, api.Errno, int) {
	if len(text) > api.MaxText {
		return nil, api.ErrLong, 0
	}
	policy := &Policy{}
	for number := 1; text != ""; number++ {
		// Ahead of reading it: the 41st line is one too many, whatever it is.
		if number > api.MaxRules {
			return nil, api.ErrMany, number
		}
		line, rest, ended := strings.Cut(text, "\n")
		rule, right := caught(func() rules.Rule { return rules.Read(line) })
		if !ended || !right {
			return nil, api.ErrRule, number
		}
		policy.rules = append(policy.rules, rule)
		text = rest
	}
	return policy, api.OK, 0
}

// Decide tells whether somebody may go somewhere, and by which rule (P4).
func (p *Policy) Decide(tenant string, host string, port int, minute int) (bool, int, api.Errno) {
	question, right := caught(func() rules.Question { return rules.Ask(tenant, host, port, minute) })
	if !right {
		return false, 0, api.ErrAsk
	}
	for number, rule := range p.rules {
		if rule.Fits(question) {
			return rule.Allow, number, api.OK
		}
	}
	return false, -1, api.OK
}

// caught gives what read gives, and whether it came to its end: a reader gives
// up by panic, and none may go beyond the calls of this package.
func caught[T any](read func() T) (value T, right bool) {
	defer func() { right = recover() == nil }()
	return read(), true
}

// Gateway has connections.
type Gateway struct{}

// New makes a gateway (P5).
func New(text string, users []api.User, minute int) (*Gateway, api.Errno, int) {
	return nil, api.OK, 0
}

// Accept takes in a client (P6).
func (g *Gateway) Accept() (int, api.Errno) { return 0, api.OK }

// Client takes in bytes of a client's (P7).
func (g *Gateway) Client(conn int, bytes string) ([]api.Event, api.Errno) { return nil, api.OK }

// Dialed tells whether a host has answered the call (P8).
func (g *Gateway) Dialed(conn int, ok bool) ([]api.Event, api.Errno) { return nil, api.OK }

// Host takes in bytes of a host's (P9).
func (g *Gateway) Host(conn int, bytes string) ([]api.Event, api.Errno) { return nil, api.OK }

// EndClient tells that a client sends nothing more (P10).
func (g *Gateway) EndClient(conn int) ([]api.Event, api.Errno) { return nil, api.OK }

// EndHost tells that a host sends nothing more (P10).
func (g *Gateway) EndHost(conn int) ([]api.Event, api.Errno) { return nil, api.OK }

// Tick lets minutes go by (P11).
func (g *Gateway) Tick(minutes int) ([]api.Event, api.Errno) { return nil, api.OK }

// Reload puts other rules in force (P12).
func (g *Gateway) Reload(text string) (api.Errno, int) { return api.OK, 0 }
