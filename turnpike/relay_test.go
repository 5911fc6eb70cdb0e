package turnpike

import (
	"strings"
	"testing"

	"turnpike/api"
)

const (
	most  = int(^uint(0) >> 1)
	least = -most - 1
)

func shutClient(conn int) api.Event { return api.Event{Kind: api.ShutClient, Conn: conn} }

func shutHost(conn int) api.Event { return api.Event{Kind: api.ShutHost, Conn: conn} }

func wantHost(t *testing.T, g *Gateway, conn int, bytes string, want ...api.Event) {
	t.Helper()
	got, e := g.Host(conn, bytes)
	wantEvents(t, "P9: Host", got, e, want)
}

func wantEndClient(t *testing.T, g *Gateway, conn int, want ...api.Event) {
	t.Helper()
	got, e := g.EndClient(conn)
	wantEvents(t, "P10: EndClient", got, e, want)
}

func wantEndHost(t *testing.T, g *Gateway, conn int, want ...api.Event) {
	t.Helper()
	got, e := g.EndHost(conn)
	wantEvents(t, "P10: EndHost", got, e, want)
}

// wantNoMoreOfClient asks both calls by which something of the client's comes in.
func wantNoMoreOfClient(t *testing.T, g *Gateway, conn int) {
	t.Helper()
	wantNoClient(t, g, conn)
	if got, e := g.Client(conn, ""); len(got) != 0 || e != api.ErrConn {
		t.Fatalf("P7: Client(%d, nothing): %+v, %d, want ErrConn", conn, got, e)
	}
	if got, e := g.EndClient(conn); len(got) != 0 || e != api.ErrConn {
		t.Fatalf("P10: EndClient(%d): %+v, %d, want ErrConn", conn, got, e)
	}
}

// wantNothingOfHost asks both calls by which something of the host's comes in.
func wantNothingOfHost(t *testing.T, g *Gateway, conn int) {
	t.Helper()
	for _, bytes := range []string{"x", ""} {
		if got, e := g.Host(conn, bytes); len(got) != 0 || e != api.ErrConn {
			t.Fatalf("P9: Host(%d, %q): %+v, %d, want ErrConn", conn, bytes, got, e)
		}
	}
	if got, e := g.EndHost(conn); len(got) != 0 || e != api.ErrConn {
		t.Fatalf("P10: EndHost(%d): %+v, %d, want ErrConn", conn, got, e)
	}
}

func wantOver(t *testing.T, g *Gateway, conn int) {
	t.Helper()
	wantNoMoreOfClient(t, g, conn)
	wantNothingOfHost(t, g, conn)
	wantNotDialed(t, g, conn)
}

// called takes in a client whose host is called, and has not answered.
func called(t *testing.T, g *Gateway, conn int) {
	t.Helper()
	accepted(t, g, conn)
	wantClient(t, g, conn, headTo("x:1", annSays), dial(conn, "x", 1))
}

// joined takes in a client whose host has answered.
func joined(t *testing.T, g *Gateway, conn int) {
	t.Helper()
	called(t, g, conn)
	wantDialed(t, g, conn, true, toClient(conn, api.Go))
}

func TestExampleOfARelay(t *testing.T) {
	g := gatewayAt(t, "allow * .example.com 443 *\n", 0)
	accepted(t, g, 1)
	wantClient(t, g, 1, headTo("www.example.com:443", annSays), dial(1, "www.example.com", 443))
	wantClient(t, g, 1, "abc")
	wantDialed(t, g, 1, true, toClient(1, api.Go), toHost(1, "abc"))
	wantHost(t, g, 1, "xyz", toClient(1, "xyz"))
	wantEndClient(t, g, 1, shutHost(1))
	wantHost(t, g, 1, "1", toClient(1, "1"))
	wantEndHost(t, g, 1, shutClient(1))
	wantOver(t, g, 1)
}

func TestHost(t *testing.T) {
	g := gatewayAt(t, good, 0)
	joined(t, g, 1)
	joined(t, g, 2)
	for _, bytes := range []string{"a", "\r\n\r\n", "\x00\xff\n", headTo("x:1", annSays), "a", api.Gone, strings.Repeat("0123456789", 100000)} {
		wantHost(t, g, 1, bytes, toClient(1, bytes))
		wantHost(t, g, 1, "")
		wantHost(t, g, 2, bytes, toClient(2, bytes))
		wantClient(t, g, 1, bytes, toHost(1, bytes))
	}
}

func TestHostThatHasNotAnswered(t *testing.T) {
	g := gatewayAt(t, good, 0)
	accepted(t, g, 1)
	wantNothingOfHost(t, g, 1)
	wantClient(t, g, 1, "CONNECT ")
	wantNothingOfHost(t, g, 1)
	wantClient(t, g, 1, "x:1 HTTP/1.1\r\n"+annSays+"\r\n", dial(1, "x", 1))
	wantNothingOfHost(t, g, 1)
	wantClient(t, g, 1, "a")
	wantNothingOfHost(t, g, 1)
	wantDialed(t, g, 1, true, toClient(1, api.Go), toHost(1, "a"))
	wantHost(t, g, 1, "b", toClient(1, "b"))
}

func TestNoSuchConnection(t *testing.T) {
	g := gatewayAt(t, good, 0)
	for _, conn := range []int{1, 0, -1, most, least} {
		wantOver(t, g, conn)
	}
	joined(t, g, 1)
	for _, conn := range []int{2, 0, -1, 1 + 1<<32, 1 << 62, most, least} {
		wantOver(t, g, conn)
	}
	wantHost(t, g, 1, "a", toClient(1, "a"))
}

func TestRefusedConnectionIsOver(t *testing.T) {
	g := gatewayAt(t, good, 0)
	accepted(t, g, 1)
	wantClient(t, g, 1, "\r\n\r\n", refused(1, api.Bad)...)
	wantOver(t, g, 1)
	called(t, g, 2)
	wantDialed(t, g, 2, false, refused(2, api.Gone)...)
	wantOver(t, g, 2)
}

func TestEndClientWithoutAHead(t *testing.T) {
	for _, said := range []string{"", "C", strings.TrimSuffix(headTo("x:1", annSays), "\n"), strings.Repeat("A", 999)} {
		g := gatewayAt(t, good, 0)
		accepted(t, g, 1)
		wantClient(t, g, 1, said)
		wantEndClient(t, g, 1, shutClient(1))
		wantOver(t, g, 1)
		// Nothing of what was said is left for the next one.
		called(t, g, 2)
	}
}

func TestEndClientWhileTheHostIsCalled(t *testing.T) {
	for _, waits := range []string{"", "abc"} {
		g := gatewayAt(t, good, 0)
		called(t, g, 1)
		wantClient(t, g, 1, waits)
		wantEndClient(t, g, 1, shutClient(1), shutHost(1))
		wantOver(t, g, 1)
		joined(t, g, 2)
	}
}

func TestEndClientThenEndHost(t *testing.T) {
	g := gatewayAt(t, good, 0)
	joined(t, g, 1)
	wantEndClient(t, g, 1, shutHost(1))
	for range 2 {
		wantNoMoreOfClient(t, g, 1)
		wantNotDialed(t, g, 1)
		wantHost(t, g, 1, "a", toClient(1, "a"))
		wantHost(t, g, 1, "")
	}
	wantEndHost(t, g, 1, shutClient(1))
	wantOver(t, g, 1)
}

func TestEndHostThenEndClient(t *testing.T) {
	g := gatewayAt(t, good, 0)
	joined(t, g, 1)
	wantEndHost(t, g, 1, shutClient(1))
	for range 2 {
		wantNothingOfHost(t, g, 1)
		wantNotDialed(t, g, 1)
		wantClient(t, g, 1, "a", toHost(1, "a"))
		wantClient(t, g, 1, "")
	}
	wantEndClient(t, g, 1, shutHost(1))
	wantOver(t, g, 1)
}

func TestAnEndIsOfOneConnection(t *testing.T) {
	g := gatewayAt(t, good, 0)
	joined(t, g, 1)
	joined(t, g, 2)
	joined(t, g, 3)
	wantEndClient(t, g, 1, shutHost(1))
	wantEndHost(t, g, 2, shutClient(2))
	wantClient(t, g, 3, "a", toHost(3, "a"))
	wantHost(t, g, 3, "b", toClient(3, "b"))
	wantHost(t, g, 1, "c", toClient(1, "c"))
	wantClient(t, g, 2, "d", toHost(2, "d"))
	wantEndHost(t, g, 1, shutClient(1))
	wantOver(t, g, 1)
	wantClient(t, g, 2, "e", toHost(2, "e"))
	wantEndClient(t, g, 2, shutHost(2))
	wantOver(t, g, 2)
	wantClient(t, g, 3, "f", toHost(3, "f"))
	wantHost(t, g, 3, "g", toClient(3, "g"))
}

func TestOnlyWhatIsOverMakesRoom(t *testing.T) {
	g := gatewayAt(t, good, 0)
	for i := range 4 {
		joined(t, g, i+1)
	}
	called(t, g, 5)
	called(t, g, 6)
	accepted(t, g, 7)
	accepted(t, g, 8)
	wantEndClient(t, g, 1, shutHost(1))
	wantEndHost(t, g, 2, shutClient(2))
	wantFull(t, g)
	wantEndHost(t, g, 1, shutClient(1))
	accepted(t, g, 9)
	wantFull(t, g)
	wantEndClient(t, g, 2, shutHost(2))
	accepted(t, g, 10)
	wantFull(t, g)
	wantEndClient(t, g, 5, shutClient(5), shutHost(5))
	accepted(t, g, 11)
	wantFull(t, g)
	wantEndClient(t, g, 8, shutClient(8))
	accepted(t, g, 12)
	wantFull(t, g)
	for _, conn := range []int{1, 2, 5, 8} {
		wantOver(t, g, conn)
	}
	wantFull(t, g)
}
