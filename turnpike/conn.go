package turnpike

import (
	"bytes"
	"strings"

	"turnpike/api"
	"turnpike/heads"
)

// stage is how far a connection has come.
type stage int

const (
	heading stage = iota // its head is not there yet
	calling              // its host is called, and has not answered
	through              // its host has answered
)

// link is what a connection needs at every stage: its number, which all its
// events carry, and for how long it has been silent.
type link struct {
	number int
	silent int // minutes since it was accepted or heard something
}

func (l *link) heard() { l.silent = 0 }

func (l *link) event(kind int) api.Event { return api.Event{Kind: kind, Conn: l.number} }

// send gives the event by which the text goes that way; none, if it is empty.
func (l *link) send(kind int, text string) []api.Event {
	if text == "" {
		return nil
	}
	sent := l.event(kind)
	// A copy, as the text may be one that was handed in.
	sent.Text = strings.Clone(text)
	return []api.Event{sent}
}

func (l *link) dial(target heads.Target) []api.Event {
	dial := l.event(api.Dial)
	dial.Text, dial.Port = target.Host, target.Port
	return []api.Event{dial}
}

// conn is a connection.
type conn struct {
	link
	stage   stage
	waiting []byte // the client's: what there is of its head; behind that, what is for the host
}

func (c *conn) wait(text string) { c.waiting = append(c.waiting, text...) }

// takeWaiting gives the bytes that wait; none are left.
func (c *conn) takeWaiting() string {
	taken := string(c.waiting)
	c.waiting = nil
	return taken
}

// takeHead gives the head, and whether enough bytes are there to look at it;
// then those behind it are left.
func (c *conn) takeHead() (head string, enough bool) {
	head, rest, enough := heads.Cut(c.waiting)
	if enough {
		// A copy, so that the head is not kept with them.
		c.waiting = bytes.Clone(rest)
	}
	return head, enough
}
