package turnpike

import (
	"slices"
	"strconv"
	"strings"
	"testing"

	"turnpike/api"
)

func wantTick(t *testing.T, g *Gateway, minutes int, want ...api.Event) {
	t.Helper()
	got, e := g.Tick(minutes)
	wantEvents(t, "P11: Tick", got, e, want)
}

func wantNoTick(t *testing.T, g *Gateway, minutes int) {
	t.Helper()
	if got, e := g.Tick(minutes); len(got) != 0 || e != api.ErrAsk {
		t.Fatalf("P11: Tick(%d): %+v, %d, want ErrAsk", minutes, got, e)
	}
}

// onlyAt gives rules by which all may go everywhere at that minute, and at no other.
func onlyAt(minute int) string {
	text := strconv.Itoa(minute)
	return "allow * * * " + text + "-" + text + "\n"
}

func TestTickOfWrongMinutes(t *testing.T) {
	wrong := []int{0, -1, -10, -10079, 10080, 10081, 20159, 1 << 31, 1<<32 + 1, most, least}
	g := gatewayAt(t, onlyAt(18), 9)
	accepted(t, g, 1)
	wantTick(t, g, 9)
	for _, minutes := range wrong {
		wantNoTick(t, g, minutes)
	}
	// Neither the clock nor the silence has gone on.
	wantClient(t, g, 1, headTo("x:1", annSays), dial(1, "x", 1))
	wantTick(t, g, 9)
	for _, minutes := range wrong {
		wantNoTick(t, g, minutes)
	}
	wantTick(t, g, 1, shutClient(1), shutHost(1))
	for _, minutes := range wrong {
		wantNoTick(t, g, minutes)
	}
}

func TestTickMovesTheClock(t *testing.T) {
	for _, c := range []struct{ from, minutes, to int }{
		{0, 1, 1}, {0, 9, 9}, {0, 10078, 10078}, {0, 10079, 10079}, {1, 10078, 10079}, {1, 10079, 0}, {2, 10079, 1},
		{5000, 5079, 10079}, {5000, 5080, 0}, {5000, 5081, 1}, {5000, 10079, 4999},
		{10078, 1, 10079}, {10078, 2, 0}, {10079, 1, 0}, {10079, 2, 1}, {10079, 10079, 10078},
	} {
		g := gatewayAt(t, onlyAt(c.to), c.from)
		accepted(t, g, 1)
		wantClient(t, g, 1, headTo("x:1", annSays), refused(1, api.Deny)...)
		wantTick(t, g, c.minutes)
		accepted(t, g, 2)
		wantClient(t, g, 2, headTo("x:1", annSays), dial(2, "x", 1))
	}
}

func TestTicksAddUp(t *testing.T) {
	g := gatewayAt(t, "allow * * * 10079-1\n", 10070)
	minute, conn := 10070, 0
	for _, minutes := range []int{8, 1, 1, 1, 1, 10076, 1, 5040, 5040, 10079, 10079, 2, 1, 1440, 1440, 1440, 1440, 1440, 1440, 1440} {
		wantTick(t, g, minutes)
		for range minutes {
			if minute++; minute == 10080 {
				minute = 0
			}
		}
		conn++
		accepted(t, g, conn)
		if minute == 10079 || minute <= 1 {
			wantClient(t, g, conn, headTo("x:1", annSays), dial(conn, "x", 1))
			wantEndClient(t, g, conn, shutClient(conn), shutHost(conn))
		} else {
			wantClient(t, g, conn, headTo("x:1", annSays), refused(conn, api.Deny)...)
		}
	}
}

// The head counts at the minute at which it is there, not at an earlier one.
func TestTickWithinAHead(t *testing.T) {
	g := gatewayAt(t, onlyAt(7), 7)
	head := headTo("x:1", annSays)
	accepted(t, g, 1)
	wantClient(t, g, 1, head[:len(head)-1])
	wantTick(t, g, 1)
	wantClient(t, g, 1, head[len(head)-1:], refused(1, api.Deny)...)
	accepted(t, g, 2)
	wantClient(t, g, 2, head[:30])
	for range 1119 {
		wantTick(t, g, 9)
		wantClient(t, g, 2, "")
	}
	wantTick(t, g, 8)
	wantClient(t, g, 2, head[30:], dial(2, "x", 1))
	// A host that is called stays called, whatever the minute.
	wantTick(t, g, 1)
	wantDialed(t, g, 2, true, toClient(2, api.Go))
	wantClient(t, g, 2, "a", toHost(2, "a"))
}

// ways are the points that a connection can be at, and what shuts it there.
func ways() []struct {
	name string
	take func(t *testing.T, g *Gateway, conn int)
	shut func(conn int) []api.Event
} {
	client := func(conn int) []api.Event { return []api.Event{shutClient(conn)} }
	host := func(conn int) []api.Event { return []api.Event{shutHost(conn)} }
	both := func(conn int) []api.Event { return []api.Event{shutClient(conn), shutHost(conn)} }
	return []struct {
		name string
		take func(t *testing.T, g *Gateway, conn int)
		shut func(conn int) []api.Event
	}{
		{"accepted", accepted, client},
		{"with a part of its head", func(t *testing.T, g *Gateway, conn int) {
			t.Helper()
			accepted(t, g, conn)
			wantClient(t, g, conn, "CONNECT x:1")
		}, client},
		{"called", called, both},
		{"called, with bytes that wait", func(t *testing.T, g *Gateway, conn int) {
			t.Helper()
			called(t, g, conn)
			wantClient(t, g, conn, "abc")
		}, both},
		{"joined", joined, both},
		{"its client has ended", func(t *testing.T, g *Gateway, conn int) {
			t.Helper()
			joined(t, g, conn)
			wantEndClient(t, g, conn, shutHost(conn))
		}, client},
		{"its host has ended", func(t *testing.T, g *Gateway, conn int) {
			t.Helper()
			joined(t, g, conn)
			wantEndHost(t, g, conn, shutClient(conn))
		}, host},
	}
}

func TestSilentConnectionIsOver(t *testing.T) {
	for _, way := range ways() {
		for _, minutes := range [][]int{{10}, {11}, {10079}, {9, 1}, {1, 9}, {9, 10079}, {5, 5}, {3, 3, 3, 3}, {1, 1, 1, 1, 1, 1, 1, 1, 1, 1}} {
			g := gatewayAt(t, good, 10075)
			wantTick(t, g, 9)
			way.take(t, g, 1)
			last := len(minutes) - 1
			for _, m := range minutes[:last] {
				wantTick(t, g, m)
			}
			got, e := g.Tick(minutes[last])
			wantEvents(t, "P11: Tick of one that is "+way.name, got, e, way.shut(1))
			wantOver(t, g, 1)
			wantTick(t, g, 10079)
			accepted(t, g, 2)
		}
	}
}

func TestTickTakesThemByTheirNumbers(t *testing.T) {
	g := gatewayAt(t, good, 0)
	for i, way := range ways() {
		way.take(t, g, i+1)
	}
	wantTick(t, g, 4)
	accepted(t, g, 8)
	wantFull(t, g)
	wantTick(t, g, 5)
	wantClient(t, g, 5, "a", toHost(5, "a"))
	wantClient(t, g, 1, "")
	var all []api.Event
	for i, way := range ways() {
		if i+1 != 5 && i+1 != 1 {
			all = append(all, way.shut(i+1)...)
		}
	}
	wantTick(t, g, 1, all...)
	for _, conn := range []int{2, 3, 4, 6, 7} {
		wantOver(t, g, conn)
	}
	for i := range 5 {
		called(t, g, 9+i)
	}
	wantFull(t, g)
	wantHost(t, g, 5, "b", toClient(5, "b"))
	wantTick(t, g, 4, shutClient(8))
	wantTick(t, g, 5, shutClient(1))
	wantTick(t, g, 1, shutClient(5), shutHost(5), shutClient(9), shutHost(9), shutClient(10), shutHost(10), shutClient(11), shutHost(11), shutClient(12), shutHost(12), shutClient(13), shutHost(13))
	accepted(t, g, 14)
}

// What is heard puts the silence back, and nothing else does.
func TestWhatIsHeard(t *testing.T) {
	client := func(bytes string) func(*Gateway) ([]api.Event, api.Errno) {
		return func(g *Gateway) ([]api.Event, api.Errno) { return g.Client(2, bytes) }
	}
	host := func(bytes string) func(*Gateway) ([]api.Event, api.Errno) {
		return func(g *Gateway) ([]api.Event, api.Errno) { return g.Host(2, bytes) }
	}
	yes := func(g *Gateway) ([]api.Event, api.Errno) { return g.Dialed(2, true) }
	endClient := func(g *Gateway) ([]api.Event, api.Errno) { return g.EndClient(2) }
	endHost := func(g *Gateway) ([]api.Event, api.Errno) { return g.EndHost(2) }
	reload := func(g *Gateway) ([]api.Event, api.Errno) { e, _ := g.Reload(good); return nil, e }
	badReload := func(g *Gateway) ([]api.Event, api.Errno) { e, _ := g.Reload("x"); return nil, e }
	for _, c := range []struct {
		way   string
		call  func(*Gateway) ([]api.Event, api.Errno)
		errno api.Errno
		heard bool
	}{
		{"accepted", client("C"), api.OK, true}, {"accepted", client(""), api.OK, true}, {"accepted", client(headTo("x:1", annSays)), api.OK, true},
		{"accepted", yes, api.ErrConn, false}, {"accepted", host("a"), api.ErrConn, false}, {"accepted", endHost, api.ErrConn, false}, {"accepted", reload, api.OK, false}, {"accepted", badReload, api.ErrRule, false},
		{"with a part of its head", client(" "), api.OK, true}, {"with a part of its head", client(""), api.OK, true},
		{"called", client("a"), api.OK, true}, {"called", client(""), api.OK, true}, {"called", yes, api.OK, true},
		{"called", host("a"), api.ErrConn, false}, {"called", endHost, api.ErrConn, false}, {"called", reload, api.OK, false},
		{"called, with bytes that wait", client(""), api.OK, true}, {"called, with bytes that wait", yes, api.OK, true},
		{"joined", client("a"), api.OK, true}, {"joined", client(""), api.OK, true}, {"joined", host("a"), api.OK, true}, {"joined", host(""), api.OK, true},
		{"joined", yes, api.ErrConn, false}, {"joined", endClient, api.OK, false}, {"joined", endHost, api.OK, false}, {"joined", reload, api.OK, false}, {"joined", badReload, api.ErrRule, false},
		{"its client has ended", host("a"), api.OK, true}, {"its client has ended", host(""), api.OK, true},
		{"its client has ended", client("a"), api.ErrConn, false}, {"its client has ended", client(""), api.ErrConn, false}, {"its client has ended", endClient, api.ErrConn, false}, {"its client has ended", yes, api.ErrConn, false},
		{"its host has ended", client("a"), api.OK, true}, {"its host has ended", client(""), api.OK, true},
		{"its host has ended", host("a"), api.ErrConn, false}, {"its host has ended", host(""), api.ErrConn, false}, {"its host has ended", endHost, api.ErrConn, false}, {"its host has ended", yes, api.ErrConn, false},
	} {
		wantHeard(t, c.way, c.call, c.errno, c.heard)
	}
}

// wantHeard asks whether a call puts back the silence of connection 2, which is
// at that point, and of no other.
func wantHeard(t *testing.T, at string, call func(*Gateway) ([]api.Event, api.Errno), errno api.Errno, heard bool) {
	t.Helper()
	for _, way := range ways() {
		if way.name != at {
			continue
		}
		g := gatewayAt(t, good, 0)
		for i := range 3 {
			way.take(t, g, i+1)
		}
		wantTick(t, g, 9)
		if _, e := call(g); e != errno {
			t.Fatalf("a call of one that is %s: %d, want %d", at, e, errno)
		}
		over := func(minutes int) (conns []int) {
			events, _ := g.Tick(minutes)
			for _, event := range events {
				conns = append(conns, event.Conn)
			}
			return slices.Compact(conns)
		}
		first, second, third := over(1), over(8), over(1)
		if heard && (!slices.Equal(first, []int{1, 3}) || len(second) != 0 || !slices.Equal(third, []int{2})) || !heard && !slices.Equal(first, []int{1, 2, 3}) {
			t.Errorf("P11: a call of one that is %s (heard: %v): over were %v, %v, %v", at, heard, first, second, third)
		}
		return
	}
	t.Fatalf("there is no point %q", at)
}

// A connection that was refused or has ended is over once; no Tick shuts it again.
func TestTickLeavesWhatIsOver(t *testing.T) {
	g := gatewayAt(t, good, 0)
	wantTick(t, g, 10)
	accepted(t, g, 1)
	wantClient(t, g, 1, "\r\n\r\n", refused(1, api.Bad)...)
	called(t, g, 2)
	wantDialed(t, g, 2, false, refused(2, api.Gone)...)
	called(t, g, 3)
	wantEndClient(t, g, 3, shutClient(3), shutHost(3))
	joined(t, g, 4)
	wantEndHost(t, g, 4, shutClient(4))
	wantEndClient(t, g, 4, shutHost(4))
	wantTick(t, g, 10)
	wantTick(t, g, 10079)
}

func TestGatewaysHaveTheirOwnClocks(t *testing.T) {
	g, other := gatewayAt(t, onlyAt(5), 0), gatewayAt(t, onlyAt(5), 0)
	accepted(t, g, 1)
	accepted(t, other, 1)
	wantTick(t, g, 5)
	wantTick(t, other, 9)
	wantClient(t, g, 1, headTo("x:1", annSays), dial(1, "x", 1))
	wantClient(t, other, 1, headTo("x:1", annSays), refused(1, api.Deny)...)
}

// A silence that lasts is put back by each thing that is heard, without end.
func TestHeardAgainAndAgain(t *testing.T) {
	g := gatewayAt(t, good, 0)
	joined(t, g, 1)
	for i := range 3000 {
		wantTick(t, g, 9)
		if text := strings.Repeat("a", i%2); i%3 == 0 {
			g.Host(1, text)
		} else {
			g.Client(1, text)
		}
	}
	wantTick(t, g, 9)
	wantTick(t, g, 1, shutClient(1), shutHost(1))
}
