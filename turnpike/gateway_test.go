package turnpike

import (
	"slices"
	"strings"
	"testing"

	"turnpike/api"
)

const (
	annSays = "Proxy-Authorization: Basic YW5uOnNlY3JldA==\r\n"
	bobSays = "Proxy-Authorization: Basic Ym9iOmI6Yw==\r\n"
)

func people() []api.User {
	return []api.User{{Name: "ann", Secret: "secret"}, {Name: "bob", Secret: "b:c"}}
}

func gatewayAt(t *testing.T, text string, minute int) *Gateway {
	t.Helper()
	g, e, at := New(text, people(), minute)
	if g == nil || e != api.OK || at != 0 {
		t.Fatalf("P5: New(%q, .., %d): %v, %d, %d", text, minute, g != nil, e, at)
	}
	return g
}

func accepted(t *testing.T, g *Gateway, want int) {
	t.Helper()
	if n, e := g.Accept(); n != want || e != api.OK {
		t.Fatalf("P6: Accept() = %d, %d, want %d", n, e, want)
	}
}

func wantFull(t *testing.T, g *Gateway) {
	t.Helper()
	if n, e := g.Accept(); n != 0 || e != api.ErrFull {
		t.Fatalf("P6: Accept() = %d, %d, want ErrFull", n, e)
	}
}

func wantEvents(t *testing.T, what string, got []api.Event, errno api.Errno, want []api.Event) {
	t.Helper()
	if errno != api.OK || !slices.Equal(got, want) {
		t.Fatalf("%s: %+v, %d, want %+v", what, got, errno, want)
	}
}

func wantClient(t *testing.T, g *Gateway, conn int, bytes string, want ...api.Event) {
	t.Helper()
	got, e := g.Client(conn, bytes)
	wantEvents(t, "P7: Client", got, e, want)
}

func wantDialed(t *testing.T, g *Gateway, conn int, ok bool, want ...api.Event) {
	t.Helper()
	got, e := g.Dialed(conn, ok)
	wantEvents(t, "P8: Dialed", got, e, want)
}

func wantNoClient(t *testing.T, g *Gateway, conn int) {
	t.Helper()
	if got, e := g.Client(conn, "x"); len(got) != 0 || e != api.ErrConn {
		t.Fatalf("P7: Client(%d): %+v, %d, want ErrConn", conn, got, e)
	}
}

func wantNotDialed(t *testing.T, g *Gateway, conn int) {
	t.Helper()
	for _, ok := range []bool{true, false} {
		if got, e := g.Dialed(conn, ok); len(got) != 0 || e != api.ErrConn {
			t.Fatalf("P8: Dialed(%d, %v): %+v, %d, want ErrConn", conn, ok, got, e)
		}
	}
}

func toClient(conn int, text string) api.Event {
	return api.Event{Kind: api.ToClient, Conn: conn, Text: text}
}

func toHost(conn int, text string) api.Event {
	return api.Event{Kind: api.ToHost, Conn: conn, Text: text}
}

func dial(conn int, host string, port int) api.Event {
	return api.Event{Kind: api.Dial, Conn: conn, Text: host, Port: port}
}

func refused(conn int, answer string) []api.Event {
	return []api.Event{toClient(conn, answer), {Kind: api.ShutClient, Conn: conn}}
}

// headTo is a head whose lines behind the first are those.
func headTo(target, lines string) string {
	return "CONNECT " + target + " HTTP/1.1\r\n" + lines + "\r\n"
}

func TestNew(t *testing.T) {
	user := func(name, secret string) api.User { return api.User{Name: name, Secret: secret} }
	var eight []api.User
	for _, name := range []string{"a", "b", "c", "d", "e", "f", "g", "letterss"} {
		eight = append(eight, user(name, "twelveletter"))
	}
	for _, c := range []struct {
		text   string
		users  []api.User
		minute int
		errno  api.Errno
		at     int
	}{
		{"", nil, 0, api.OK, 0}, {good, []api.User{}, 10079, api.OK, 0}, {good, eight, 5, api.OK, 0},
		{"", append(eight, user("h", "x")), 0, api.ErrMany, 0}, {"", append(eight, user("a", "")), 0, api.ErrMany, 0}, {"", make([]api.User, 9), -1, api.ErrMany, 0}, {"", make([]api.User, 1000000), -1, api.ErrMany, 0},
		{"", make([]api.User, 8), -1, api.ErrUser, 0}, {"", []api.User{user("a", "!"), user("b", "~"), user("c", "a b")}, 0, api.ErrUser, 2},
		{"", []api.User{user("a", "x"), user("a", "y")}, 0, api.ErrUser, 1}, {"", []api.User{user("a", "x"), user("b", "x"), user("a", "x"), user("", "")}, 0, api.ErrUser, 2}, {"", []api.User{user("a", "x"), user("b", "x")}, 0, api.OK, 0},
		{"", []api.User{user("a", ""), user("a", "x")}, 0, api.ErrUser, 0}, {"", []api.User{user("b", "x"), user("a", ""), user("a", "x")}, 0, api.ErrUser, 1},
		{"", []api.User{user("A", "x")}, 0, api.ErrUser, 0}, {"", []api.User{user("ninelette", "x")}, 0, api.ErrUser, 0}, {"", []api.User{user("a", "thirteenchars")}, 0, api.ErrUser, 0}, {"", []api.User{user("a", "\x7f")}, 0, api.ErrUser, 0}, {"", []api.User{user("a", " ")}, 0, api.ErrUser, 0},
		{"", nil, -1, api.ErrAsk, 0}, {"", nil, 10080, api.ErrAsk, 0}, {"", nil, most, api.ErrAsk, 0}, {"", nil, least, api.ErrAsk, 0}, {good, eight, 10080, api.ErrAsk, 0},
		{"x", make([]api.User, 9), -1, api.ErrRule, 1}, {good + "x\n", make([]api.User, 8), -1, api.ErrRule, 2}, {good + good[:13], nil, 0, api.ErrRule, 2}, {strings.Repeat(good, 41), make([]api.User, 9), 0, api.ErrMany, 41}, {strings.Repeat(" ", 4001), make([]api.User, 9), -1, api.ErrLong, 0},
	} {
		g, e, at := New(c.text, c.users, c.minute)
		if (g != nil) != (c.errno == api.OK) || e != c.errno || at != c.at {
			t.Errorf("P5: New(%.20q, %d users, %d): %v, %d, %d, want %d, %d", c.text, len(c.users), c.minute, g != nil, e, at, c.errno, c.at)
		}
	}
}

func TestNewHasNoConnections(t *testing.T) {
	g := gatewayAt(t, good, 0)
	for _, conn := range []int{-1, 0, 1, 2, 8} {
		wantNoClient(t, g, conn)
		wantNotDialed(t, g, conn)
	}
}

func TestNewSetsTheClock(t *testing.T) {
	for _, minute := range []int{0, 5, 6, 7, 10079} {
		g := gatewayAt(t, "deny ann * * 6-6\nallow ann * * 5-7\n", minute)
		accepted(t, g, 1)
		want := []api.Event{dial(1, "x", 1)}
		if minute != 5 && minute != 7 {
			want = refused(1, api.Deny)
		}
		wantClient(t, g, 1, headTo("x:1", annSays), want...)
	}
}

func TestAccept(t *testing.T) {
	g := gatewayAt(t, good, 0)
	for i := range 8 {
		accepted(t, g, i+1)
	}
	wantFull(t, g)
	wantFull(t, g)
	wantClient(t, g, 3, "\r\n\r\n", refused(3, api.Bad)...)
	accepted(t, g, 9)
	wantFull(t, g)
	wantClient(t, g, 1, headTo("x:1", annSays), dial(1, "x", 1))
	wantFull(t, g)
	wantDialed(t, g, 1, true, toClient(1, api.Go))
	wantFull(t, g)
	wantClient(t, g, 9, headTo("x:1", annSays), dial(9, "x", 1))
	wantDialed(t, g, 9, false, refused(9, api.Gone)...)
	wantClient(t, g, 8, "\r\n\r\n", refused(8, api.Bad)...)
	accepted(t, g, 10)
	accepted(t, g, 11)
	wantFull(t, g)
	for _, conn := range []int{3, 8, 9} {
		wantNoClient(t, g, conn)
	}
	for _, conn := range []int{1, 2, 4, 5, 6, 7, 10, 11} {
		wantClient(t, g, conn, "")
	}
}

func TestNumbersAreOfOneGateway(t *testing.T) {
	first, second := gatewayAt(t, good, 0), gatewayAt(t, "", 0)
	accepted(t, first, 1)
	accepted(t, first, 2)
	accepted(t, second, 1)
	wantNoClient(t, second, 2)
	wantClient(t, first, 1, headTo("x:1", annSays), dial(1, "x", 1))
	wantNotDialed(t, second, 1)
	wantClient(t, second, 1, headTo("x:1", annSays), refused(1, api.Deny)...)
	wantDialed(t, first, 1, true, toClient(1, api.Go))
}

const someRules = "deny bob .example.com * *\nallow * .example.com 443 *\nallow bob 10.0.0.0/8 0-99 5-9\n"

// wantAnswer lets a client say that, at one go and in pieces of 1 and 7 bytes.
func wantAnswer(t *testing.T, said string, want ...api.Event) {
	t.Helper()
	for _, size := range []int{len(said), 1, 7} {
		g := gatewayAt(t, someRules, 7)
		accepted(t, g, 1)
		rest := said
		for len(rest) > size {
			wantClient(t, g, 1, rest[:size])
			rest = rest[size:]
		}
		wantClient(t, g, 1, rest, want...)
		if len(want) == 1 {
			wantClient(t, g, 1, "x")
			continue
		}
		wantNoClient(t, g, 1)
		wantNotDialed(t, g, 1)
	}
}

func TestClientIsLetThrough(t *testing.T) {
	wantAnswer(t, headTo("www.example.com:443", annSays), dial(1, "www.example.com", 443))
	wantAnswer(t, headTo("WWW.eXample.COM:443", annSays), dial(1, "www.example.com", 443))
	wantAnswer(t, headTo("10.1.2.3:0", bobSays), dial(1, "10.1.2.3", 0))
	wantAnswer(t, strings.Replace(headTo("example.com:443", annSays), "/1.1", "/1.0", 1), dial(1, "example.com", 443))
	for _, field := range []string{
		"proxy-authorization:Basic YW5uOnNlY3JldA==\r\n", "PROXY-AUTHORIZATION:    Basic YW5uOnNlY3JldA==   \r\n", "Host: x\r\npRoxy-aUthorization: Basic YW5uOnNlY3JldA==\r\nHost: x\r\nA:\r\n", annSays + "Authorization: x\r\nProxy-Authorization-: x\r\n",
	} {
		wantAnswer(t, headTo("example.com:443", field), dial(1, "example.com", 443))
	}
}

func TestClientIsDenied(t *testing.T) {
	for _, head := range []string{headTo("example.com:444", annSays), headTo("example.com:443", bobSays), headTo("10.1.2.3:100", bobSays), headTo("10.1.2.3:99", annSays), headTo("x:443", annSays), headTo("notexample.com:443", annSays)} {
		wantAnswer(t, head, refused(1, api.Deny)...)
	}
}

func TestClientIsNotKnown(t *testing.T) {
	for _, lines := range []string{
		"", annSays + annSays, annSays + bobSays, annSays + "proxy-authorization: x\r\n", annSays + "proxy-authorization:\r\n", "Authorization: Basic YW5uOnNlY3JldA==\r\n", "Proxy-Authorizatio: Basic YW5uOnNlY3JldA==\r\n",
		"Proxy-Authorization:\r\n", "Proxy-Authorization: Basic\r\n", "Proxy-Authorization: basic YW5uOnNlY3JldA==\r\n", "Proxy-Authorization: Basic  YW5uOnNlY3JldA==\r\n", "Proxy-Authorization: Basic YW5uOnNlY3JldB==\r\n", "Proxy-Authorization: Basic YW5uOnNlY3JldA=\r\n", "Proxy-Authorization: Basic YW5uOnNlY3JldA\r\n", "Proxy-Authorization: Basic YW5uOnNlY3JldA== x\r\n", "Proxy-Authorization: YW5uOnNlY3JldA==\r\n", "Proxy-Authorization: Basic ann:secret\r\n",
	} {
		wantAnswer(t, headTo("example.com:443", lines), refused(1, api.Who)...)
		wantAnswer(t, headTo("denied.org:1", lines), refused(1, api.Who)...)
	}
	none, _, _ := New(good, nil, 0)
	accepted(t, none, 1)
	wantClient(t, none, 1, headTo("x:1", annSays), refused(1, api.Who)...)
	accepted(t, none, 2)
	wantClient(t, none, 2, headTo("x:1", "Proxy-Authorization:\r\n"), refused(2, api.Who)...)
}

func TestClientOfAnotherKind(t *testing.T) {
	for _, line := range []string{"GET example.com:443", "GET /", "CONNECTS example.com:443", "CONNEC example.com:443", "X example.com"} {
		wantAnswer(t, line+" HTTP/1.1\r\n"+annSays+"\r\n", refused(1, api.Kind)...)
		wantAnswer(t, line+" HTTP/1.1\r\n\r\n", refused(1, api.Kind)...)
	}
}

func TestClientIsWrong(t *testing.T) {
	for _, target := range []string{"example.com", "example.com:", ":443", "example.com:0443", "example.com:65536", "example.com:x", "a:b:443", "1.2.3:443", "1.2.3.4.5:443", "a.1:443", "a_b:443", ".example.com:443", "/"} {
		wantAnswer(t, headTo(target, annSays), refused(1, api.Bad)...)
		wantAnswer(t, headTo(target, ""), refused(1, api.Bad)...)
	}
	for _, first := range []string{"", "connect example.com:443 HTTP/1.1", "CONNECT  example.com:443 HTTP/1.1", "CONNECT example.com:443  HTTP/1.1", "CONNECT example.com:443 HTTP/1.2", "CONNECT example.com:443", "CONNECT HTTP/1.1", " CONNECT example.com:443 HTTP/1.1", "CONNECT example.com:443 HTTP/1.1 ", "CONNECT example.com:443\x7f HTTP/1.1", "GET / HTTP/1", "\nCONNECT example.com:443 HTTP/1.1"} {
		if first != "" {
			wantAnswer(t, first+"\r\n"+annSays+"\r\n", refused(1, api.Bad)...)
		}
		wantAnswer(t, first+"\r\n\r\n", refused(1, api.Bad)...)
	}
	wantAnswer(t, "\r\n"+headTo("example.com:443", annSays), refused(1, api.Bad)...)
	for _, field := range []string{"no field", ": x", "A b: x", "A : x", " A: x", "A: \t", "A: \x80", "A: \x7f", "A: x\ny", "A: x\r", "A_b: x"} {
		wantAnswer(t, headTo("example.com:443", field+"\r\n"+annSays), refused(1, api.Bad)...)
		wantAnswer(t, headTo("example.com:443", annSays+field+"\r\n"), refused(1, api.Bad)...)
		wantAnswer(t, "GET / HTTP/1.1\r\n"+field+"\r\n\r\n", refused(1, api.Bad)...)
	}
}

func TestClientSaysTooMuch(t *testing.T) {
	wantAnswer(t, strings.Repeat("A", 1000), refused(1, api.Bad)...)
	for _, length := range []int{1000, 1001, 1003, 1004, 5000} {
		pad := strings.Repeat("x", length-len(headTo("example.com:443", annSays+"A: \r\n")))
		head := headTo("example.com:443", annSays+"A: "+pad+"\r\n")
		g := gatewayAt(t, someRules, 7)
		accepted(t, g, 1)
		accepted(t, g, 2)
		want := func(conn int) []api.Event {
			if length > 1000 {
				return refused(conn, api.Bad)
			}
			return []api.Event{dial(conn, "example.com", 443)}
		}
		wantClient(t, g, 1, head+"behind", want(1)...)
		for i := range 999 {
			wantClient(t, g, 2, head[i:i+1])
		}
		wantClient(t, g, 2, head[999:], want(2)...)
	}
	g := gatewayAt(t, someRules, 7)
	accepted(t, g, 1)
	wantClient(t, g, 1, "\r\n"+strings.Repeat("x", 997))
	wantClient(t, g, 1, "")
	wantClient(t, g, 1, headTo("example.com:443", annSays), refused(1, api.Bad)...)
}

func TestClientDropsWhatIsBehindARefusedHead(t *testing.T) {
	g := gatewayAt(t, someRules, 7)
	accepted(t, g, 1)
	wantClient(t, g, 1, "GET / HTTP/1.1\r\n\r\n"+headTo("example.com:443", annSays), refused(1, api.Kind)...)
	wantNoClient(t, g, 1)
	accepted(t, g, 2)
	wantClient(t, g, 2, headTo("example.com:443", annSays), dial(2, "example.com", 443))
	wantDialed(t, g, 2, true, toClient(2, api.Go))
}

func TestBytesWaitForTheHost(t *testing.T) {
	g := gatewayAt(t, someRules, 7)
	head := headTo("example.com:443", annSays)
	accepted(t, g, 1)
	accepted(t, g, 2)
	wantClient(t, g, 1, head[:20])
	wantClient(t, g, 2, head+head, dial(2, "example.com", 443))
	wantClient(t, g, 1, head[20:]+"a", dial(1, "example.com", 443))
	wantClient(t, g, 1, "\x00\r\n\xff")
	wantClient(t, g, 1, "")
	wantClient(t, g, 2, "y")
	wantClient(t, g, 1, "z")
	wantDialed(t, g, 1, true, toClient(1, api.Go), toHost(1, "a\x00\r\n\xffz"))
	wantNotDialed(t, g, 1)
	if kept := g.find(1).waiting; len(kept) != 0 {
		t.Errorf("P8: %q is kept, and waits no more", kept)
	}
	wantClient(t, g, 1, head, toHost(1, head))
	wantClient(t, g, 1, "")
	wantClient(t, g, 1, "\r\n\r\n", toHost(1, "\r\n\r\n"))
	wantDialed(t, g, 2, true, toClient(2, api.Go), toHost(2, head+"y"))
	wantClient(t, g, 2, "w", toHost(2, "w"))

	long := strings.Repeat("0123456789", 100000)
	accepted(t, g, 3)
	wantClient(t, g, 3, head+long, dial(3, "example.com", 443))
	wantClient(t, g, 3, long)
	wantDialed(t, g, 3, true, toClient(3, api.Go), toHost(3, long+long))
	wantClient(t, g, 3, long, toHost(3, long))
}

func TestDialed(t *testing.T) {
	g := gatewayAt(t, good, 0)
	for i := range 3 {
		accepted(t, g, i+1)
	}
	for _, conn := range []int{0, 1, 2, 3, 4, -1, most, least} {
		wantNotDialed(t, g, conn)
	}
	wantClient(t, g, 1, headTo("a:1", annSays), dial(1, "a", 1))
	wantClient(t, g, 2, headTo("b:2", bobSays)+"x", dial(2, "b", 2))
	wantNotDialed(t, g, 3)
	wantDialed(t, g, 2, false, refused(2, api.Gone)...)
	wantNotDialed(t, g, 2)
	wantNoClient(t, g, 2)
	wantDialed(t, g, 1, true, toClient(1, api.Go))
	wantNotDialed(t, g, 1)
	wantClient(t, g, 1, "abc", toHost(1, "abc"))
	for _, conn := range []int{0, 2, 4, -1, most, least} {
		wantNoClient(t, g, conn)
	}
}
