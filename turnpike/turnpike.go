// Package turnpike: a gateway that lets connections through by rules: see DOC.md.
package turnpike

import (
	"slices"
	"strings"

	"turnpike/api"
	"turnpike/rules"
	"turnpike/tenants"
)

// Policy is rules.
type Policy struct {
	rules []rules.Rule
}

// Compile reads rules (P3).
func Compile(text string) (*Policy, api.Errno, int) {
	if len(text) > api.MaxText {
		return nil, api.ErrLong, 0
	}
	policy := &Policy{}
	for number := 1; text != ""; number++ {
		// Ahead of reading it: the 41st line is one too many, whatever it is.
		if number > api.MaxRules {
			return nil, api.ErrMany, number
		}
		line, rest, ended := strings.Cut(text, "\n")
		rule, right := caught(func() rules.Rule { return rules.Read(line) })
		if !ended || !right {
			return nil, api.ErrRule, number
		}
		policy.rules = append(policy.rules, rule)
		text = rest
	}
	return policy, api.OK, 0
}

// Decide tells whether somebody may go somewhere, and by which rule (P4).
func (p *Policy) Decide(tenant string, host string, port int, minute int) (bool, int, api.Errno) {
	question, right := caught(func() rules.Question { return rules.Ask(tenant, host, port, minute) })
	if !right {
		return false, 0, api.ErrAsk
	}
	for number, rule := range p.rules {
		if rule.Fits(question) {
			return rule.Allow, number, api.OK
		}
	}
	return false, -1, api.OK
}

// caught gives what read gives, and whether it came to its end: a reader gives
// up by panic, and none may go beyond the calls of this package.
func caught[T any](read func() T) (value T, right bool) {
	defer func() { right = recover() == nil }()
	return read(), true
}

// Gateway has connections.
type Gateway struct {
	policy  *Policy
	tenants tenants.List
	minute  int
	last    int     // the number of the latest connection
	conns   []*conn // those that are open, by their numbers
}

// New makes a gateway (P5).
func New(text string, users []api.User, minute int) (*Gateway, api.Errno, int) {
	policy, errno, line := Compile(text)
	if errno != api.OK {
		return nil, errno, line
	}
	if len(users) > api.MaxUsers {
		return nil, api.ErrMany, 0
	}
	var known tenants.List
	for number, user := range users {
		more, right := caught(func() tenants.List { return known.With(user) })
		if !right {
			return nil, api.ErrUser, number
		}
		known = more
	}
	if minute < 0 || minute >= api.Minutes {
		return nil, api.ErrAsk, 0
	}
	return &Gateway{policy: policy, tenants: known, minute: minute}, api.OK, 0
}

// Accept takes in a client (P6).
func (g *Gateway) Accept() (int, api.Errno) {
	if len(g.conns) == api.MaxConns {
		return 0, api.ErrFull
	}
	g.last++
	g.conns = append(g.conns, &conn{link: link{number: g.last}})
	return g.last, api.OK
}

// Client takes in bytes of a client's (P7).
func (g *Gateway) Client(conn int, bytes string) ([]api.Event, api.Errno) {
	c := g.find(conn)
	if c == nil || !c.mayHearClient() {
		return nil, api.ErrConn
	}
	c.heard()
	if c.stage == through {
		return c.send(api.ToHost, bytes), api.OK
	}
	c.wait(bytes)
	if c.stage == calling {
		return nil, api.OK
	}
	head, enough := c.takeHead()
	if !enough {
		return nil, api.OK
	}
	return g.answer(c, head), api.OK
}

// Dialed tells whether a host has answered the call (P8).
func (g *Gateway) Dialed(conn int, ok bool) ([]api.Event, api.Errno) {
	c := g.find(conn)
	if c == nil || c.stage != calling {
		return nil, api.ErrConn
	}
	c.heard()
	if !ok {
		return g.refuse(c, api.Gone), api.OK
	}
	c.stage = through
	return append(c.send(api.ToClient, api.Go), c.send(api.ToHost, c.takeWaiting())...), api.OK
}

// Host takes in bytes of a host's (P9).
func (g *Gateway) Host(conn int, bytes string) ([]api.Event, api.Errno) {
	c := g.find(conn)
	if c == nil || !c.mayHearHost() {
		return nil, api.ErrConn
	}
	c.heard()
	return c.send(api.ToClient, bytes), api.OK
}

// EndClient tells that a client sends nothing more (P10).
func (g *Gateway) EndClient(conn int) ([]api.Event, api.Errno) {
	c := g.find(conn)
	if c == nil || !c.mayHearClient() {
		return nil, api.ErrConn
	}
	return g.leave(c), api.OK
}

// EndHost tells that a host sends nothing more (P10).
func (g *Gateway) EndHost(conn int) ([]api.Event, api.Errno) {
	c := g.find(conn)
	if c == nil || !c.mayHearHost() {
		return nil, api.ErrConn
	}
	c.hostEnded = true
	g.dropIfBothEnded(c)
	return c.shut(api.ShutClient), api.OK
}

// Tick lets minutes go by (P11).
func (g *Gateway) Tick(minutes int) ([]api.Event, api.Errno) {
	if minutes < 1 || minutes >= api.Minutes {
		return nil, api.ErrAsk
	}
	g.minute = (g.minute + minutes) % api.Minutes
	var events []api.Event
	// Through a copy, as some are dropped on the way.
	for _, c := range slices.Clone(g.conns) {
		events = append(events, g.age(c, minutes)...)
	}
	return events, api.OK
}

// Reload puts other rules in force (P12).
func (g *Gateway) Reload(text string) (api.Errno, int) {
	policy, errno, line := Compile(text)
	if errno != api.OK {
		return errno, line
	}
	g.policy = policy
	return api.OK, 0
}
