package turnpike

import (
	"math/rand"
	"slices"
	"strings"
	"testing"

	"turnpike/api"
)

func anyCall(r *rand.Rand, g *Gateway, conn int, text string) ([]api.Event, api.Errno) {
	switch r.Intn(12) {
	case 0:
		return g.EndClient(conn)
	case 1:
		return g.EndHost(conn)
	case 2, 3, 4:
		return g.Host(conn, text)
	case 5, 6, 7:
		return g.Dialed(conn, r.Intn(3) > 0)
	}
	return g.Client(conn, text)
}

// anyTickOrReload gives a fault, if what the call answers may not be.
func anyTickOrReload(r *rand.Rand, g *Gateway, text string) (fault string) {
	minutes := []int{r.Int() - r.Int(), r.Intn(6), r.Intn(20000) - 5000}[r.Intn(3)]
	if got, e := g.Tick(minutes); e != api.OK && (e != api.ErrAsk || len(got) != 0) {
		return "Tick"
	}
	if e, at := g.Reload([]string{text, good, good + text}[r.Intn(3)]); e != api.OK && e != api.ErrRule || e == api.OK && at != 0 {
		return "Reload"
	}
	return ""
}

func TestNoCallOfAGatewayPanics(t *testing.T) {
	r := rand.New(rand.NewSource(5))
	for range 2000 {
		users := make([]api.User, r.Intn(12))
		for i := range users {
			users[i] = api.User{Name: randomText(r, 4), Secret: randomText(r, 14)}
		}
		if g, e, at := New(randomText(r, 30), users, r.Int()-r.Int()); e == api.OK || g != nil || at < 0 {
			t.Fatalf("P1: New gave %v, %d, %d", g, e, at)
		}
	}
	g := gatewayAt(t, good, 0)
	for range 40000 {
		g.Accept()
		// Of those that are open, or Accept would soon have no room left.
		conn := g.conns[r.Intn(len(g.conns))].number
		switch r.Intn(10) {
		case 0:
			conn = r.Int() - r.Int()
		case 1:
			conn = g.last - 9 + r.Intn(11)
		}
		text := randomText(r, 300)
		if r.Intn(3) == 0 {
			text = headTo("x:1", annSays) + text
		}
		got, e := anyCall(r, g, conn, text)
		if e != api.OK && e != api.ErrConn || e != api.OK && len(got) != 0 {
			t.Fatalf("P1: beside the error %d: %+v", e, got)
		}
		if r.Intn(5) == 0 {
			if fault := anyTickOrReload(r, g, text); fault != "" {
				t.Fatalf("P1: a wrong answer of %s", fault)
			}
		}
	}
	for _, text := range []string{strings.Repeat("\r\n", 500000), strings.Repeat(":", 9000000), strings.Repeat("A B ", 250), "CONNECT x:1 HTTP/1.1\r\n" + strings.Repeat("a:\r\n", 240) + "\r\n"} {
		g := gatewayAt(t, good, 0)
		accepted(t, g, 1)
		if got, e := g.Client(1, text); e != api.OK || len(got) != 2 {
			t.Errorf("P1: Client(%.20q) = %+v, %d", text, got, e)
		}
	}
}

func TestWithAnErrorNothingIsChanged(t *testing.T) {
	g := gatewayAt(t, good, 0)
	for i := range 8 {
		accepted(t, g, i+1)
	}
	wantFull(t, g)
	wantClient(t, g, 1, "CONNECT x")
	wantNotDialed(t, g, 1)
	wantNoClient(t, g, 9)
	wantNoClient(t, g, 0)
	wantClient(t, g, 1, ":1 HTTP/1.1\r\n"+annSays+"\r\nab", dial(1, "x", 1))
	wantNotDialed(t, g, 2)
	wantDialed(t, g, 1, true, toClient(1, api.Go), toHost(1, "ab"))
	wantNotDialed(t, g, 1)
	wantClient(t, g, 1, "c", toHost(1, "c"))
	wantClient(t, g, 8, "\r\n\r\n", refused(8, api.Bad)...)
	accepted(t, g, 9)
}

func TestWithAnErrorNothingHasEnded(t *testing.T) {
	g := gatewayAt(t, good, 0)
	called(t, g, 1)
	wantClient(t, g, 1, "a")
	// Too early: the host's end counts only once it has answered.
	wantNothingOfHost(t, g, 1)
	wantDialed(t, g, 1, true, toClient(1, api.Go), toHost(1, "a"))
	wantHost(t, g, 1, "b", toClient(1, "b"))
	wantEndClient(t, g, 1, shutHost(1))
	// A second end of the client is not the host's.
	wantNoMoreOfClient(t, g, 1)
	wantHost(t, g, 1, "c", toClient(1, "c"))
	joined(t, g, 2)
	wantEndHost(t, g, 2, shutClient(2))
	wantNothingOfHost(t, g, 2)
	wantClient(t, g, 2, "d", toHost(2, "d"))
	wantOver(t, g, 3)
	accepted(t, g, 3)
}

func TestUsersAreNotKeptNorWritten(t *testing.T) {
	room := append(make([]api.User, 0, 9), people()...)
	before := slices.Clone(room[:9])
	g, e, at := New(good, room, 0)
	if g == nil || e != api.OK || at != 0 {
		t.Fatalf("P5: New: %d, %d", e, at)
	}
	if !slices.Equal(room[:9], before) {
		t.Errorf("P2: New wrote into the users: %v", room[:9])
	}
	for i := range room[:9] {
		room[:9][i] = api.User{Name: "eve", Secret: "e"}
	}
	accepted(t, g, 1)
	wantClient(t, g, 1, headTo("x:1", annSays), dial(1, "x", 1))
	accepted(t, g, 2)
	wantClient(t, g, 2, headTo("x:1", bobSays), dial(2, "x", 1))
	accepted(t, g, 3)
	wantClient(t, g, 3, headTo("x:1", "Proxy-Authorization: Basic ZXZlOmU=\r\n"), refused(3, api.Who)...)
}

// scribble writes into a list, spare room too.
func scribble(list []api.Event) {
	list = list[:cap(list)]
	for i := range list {
		list[i] = api.Event{Kind: 77, Conn: 77, Text: "scribble", Port: 77}
	}
}

func TestEventsAreNewMemory(t *testing.T) {
	g := gatewayAt(t, good, 0)
	var kept [][]api.Event
	keep := func(list []api.Event, e api.Errno) {
		t.Helper()
		if e != api.OK {
			t.Fatalf("an error: %d", e)
		}
		kept = append(kept, list)
	}
	run := func(conn int, use func([]api.Event, api.Errno)) {
		use(g.Client(conn, headTo("x:1", annSays)+"a"))
		use(g.Client(conn, "b"))
		use(g.Dialed(conn, true))
		use(g.Client(conn, "c"))
		use(g.Client(conn, "d"))
		use(g.Host(conn, "y"))
		use(g.Host(conn, "z"))
	}
	accepted(t, g, 1)
	run(1, keep)
	accepted(t, g, 2)
	run(2, func(list []api.Event, _ api.Errno) { scribble(list) })
	accepted(t, g, 3)
	keep(g.Client(3, "\r\n\r\n"))
	accepted(t, g, 4)
	keep(g.EndClient(4))
	called(t, g, 5)
	keep(g.EndClient(5))
	joined(t, g, 6)
	keep(g.EndHost(6))
	keep(g.EndClient(6))
	want := [][]api.Event{{dial(1, "x", 1)}, nil, {toClient(1, api.Go), toHost(1, "ab")}, {toHost(1, "c")}, {toHost(1, "d")}, {toClient(1, "y")}, {toClient(1, "z")}, refused(3, api.Bad), {shutClient(4)}, {shutClient(5), shutHost(5)}, {shutClient(6)}, {shutHost(6)}}
	for i, list := range kept {
		if !slices.Equal(list, want[i]) {
			t.Errorf("P2: list %d became %+v, want %+v", i, list, want[i])
		}
		scribble(list)
	}
	wantClient(t, g, 1, "e", toHost(1, "e"))
	wantClient(t, g, 2, "f", toHost(2, "f"))
	wantHost(t, g, 1, "g", toClient(1, "g"))
	wantEndClient(t, g, 1, shutHost(1))
	wantEndHost(t, g, 1, shutClient(1))
	wantEndHost(t, g, 2, shutClient(2))
	wantEndClient(t, g, 2, shutHost(2))
}

func TestEventsOfTickAreNewMemory(t *testing.T) {
	g := gatewayAt(t, good, 0)
	called(t, g, 1)
	called(t, g, 2)
	wantTick(t, g, 5)
	joined(t, g, 3)
	joined(t, g, 4)
	first, _ := g.Tick(5)
	accepted(t, g, 5)
	second, _ := g.Tick(5)
	scribble(first)
	wantEvents(t, "P2: Tick, behind a write into an earlier list", second, api.OK, []api.Event{shutClient(3), shutHost(3), shutClient(4), shutHost(4)})
	scribble(second)
	none, _ := g.Tick(4)
	scribble(none)
	wantTick(t, g, 1, shutClient(5))
}
