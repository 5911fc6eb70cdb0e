package turnpike

import (
	"bytes"
	"strings"

	"turnpike/api"
	"turnpike/heads"
)

// stage is how far a connection has come.
type stage int

const (
	heading stage = iota // its head is not there yet
	calling              // its host is called, and has not answered
	through              // its host has answered
)

// link is what a connection needs at every stage: its number, which all its
// events carry, and for how long it has been silent.
type link struct {
	number int
	silent int // minutes since it was accepted or heard something
}

func (l *link) heard() { l.silent = 0 }

func (l *link) event(kind int) api.Event { return api.Event{Kind: kind, Conn: l.number} }

// send gives the event by which the text goes that way; none, if it is empty.
func (l *link) send(kind int, text string) []api.Event {
	if text == "" {
		return nil
	}
	sent := l.event(kind)
	// A copy, as the text may be one that was handed in.
	sent.Text = strings.Clone(text)
	return []api.Event{sent}
}

// shut gives the events by which those get nothing more.
func (l *link) shut(kinds ...int) []api.Event {
	var events []api.Event
	for _, kind := range kinds {
		events = append(events, l.event(kind))
	}
	return events
}

func (l *link) dial(target heads.Target) []api.Event {
	dial := l.event(api.Dial)
	dial.Text, dial.Port = target.Host, target.Port
	return []api.Event{dial}
}

// conn is a connection.
type conn struct {
	link
	stage   stage
	waiting []byte // the client's: what there is of its head; behind that, what is for the host
	// Which side has ended: at the stage through alone, as ahead of it a
	// connection is over with its client, and its host can't end.
	clientEnded, hostEnded bool
}

// mayHearClient tells whether something of the client's may come yet.
func (c *conn) mayHearClient() bool { return !c.clientEnded }

// mayHearHost tells whether something of the host's may come by now, and yet.
func (c *conn) mayHearHost() bool { return c.stage == through && !c.hostEnded }

// unshut gives the kinds of the events that shut what is not shut yet: where one
// side has ended, the other was shut with that.
func (c *conn) unshut() []int {
	var kinds []int
	if !c.hostEnded {
		kinds = append(kinds, api.ShutClient)
	}
	if c.stage != heading && !c.clientEnded {
		kinds = append(kinds, api.ShutHost)
	}
	return kinds
}

func (c *conn) wait(text string) { c.waiting = append(c.waiting, text...) }

// takeWaiting gives the bytes that wait; none are left.
func (c *conn) takeWaiting() string {
	taken := string(c.waiting)
	c.waiting = nil
	return taken
}

// takeHead gives the head, and whether enough bytes are there to look at it;
// then those behind it are left.
func (c *conn) takeHead() (head string, enough bool) {
	head, rest, enough := heads.Cut(c.waiting)
	if enough {
		// A copy, so that the head is not kept with them.
		c.waiting = bytes.Clone(rest)
	}
	return head, enough
}
