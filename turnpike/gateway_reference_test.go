package turnpike

import (
	"encoding/base64"
	"maps"
	"math/rand"
	"net/netip"
	"regexp"
	"slices"
	"strconv"
	"strings"
	"testing"

	"turnpike/api"
)

// What follows is a second gateway for P5 to P12, by means that the program does
// not use; it keeps all that a client ever said, and looks at it anew each time.
// Its time does not turn round with the week, and no silence is counted: it is
// reckoned from when something was heard.

var (
	headForm = regexp.MustCompile(`^([A-Z]+) ([!-~]+) HTTP/1\.[01]\r\n(?:[A-Za-z0-9-]+:[ -~]*\r\n)*\r\n$`)
	saysWho  = regexp.MustCompile(`(?i)\r\nProxy-Authorization: *([ -~]*?) *\r\n`)
)

// secondConn has in open the calls that may come: c Client and EndClient,
// d Dialed, h Host and EndHost.
type secondConn struct {
	said string
	open string
	sent int // of said, those that are the head's or went to the host
	when int // the time at which it was accepted or heard something
}

type secondGateway struct {
	rules []string
	time  int
	last  int
	conns map[int]*secondConn
}

func (g *secondGateway) may(conn int, call string) bool {
	c := g.conns[conn]
	return c != nil && strings.Contains(c.open, call)
}

func (g *secondGateway) accept() {
	g.last++
	g.conns[g.last] = &secondConn{open: "c", when: g.time}
}

func (g *secondGateway) tick(minutes int) (events []api.Event) {
	g.time += minutes
	for _, conn := range slices.Sorted(maps.Keys(g.conns)) {
		c := g.conns[conn]
		if g.time-c.when < 10 {
			continue
		}
		delete(g.conns, conn)
		if c.open != "c" || c.sent == 0 {
			events = append(events, shutClient(conn))
		}
		if c.open != "h" && c.sent > 0 {
			events = append(events, shutHost(conn))
		}
	}
	return events
}

// closeFor takes it that one side has ended, and gives what the other is told.
func (g *secondGateway) closeFor(conn int, side string, told ...api.Event) []api.Event {
	c := g.conns[conn]
	if c.open = strings.Replace(c.open, side, "", 1); c.open == "" {
		delete(g.conns, conn)
	}
	return told
}

func (g *secondGateway) endClient(conn int) []api.Event {
	switch c := g.conns[conn]; {
	case c.sent == 0:
		delete(g.conns, conn)
		return []api.Event{shutClient(conn)}
	case c.open == "cd":
		delete(g.conns, conn)
		return []api.Event{shutClient(conn), shutHost(conn)}
	}
	return g.closeFor(conn, "c", shutHost(conn))
}

func (g *secondGateway) endHost(conn int) []api.Event {
	return g.closeFor(conn, "h", shutClient(conn))
}

func (g *secondGateway) host(conn int, bytes string) []api.Event {
	g.conns[conn].when = g.time
	if bytes == "" {
		return nil
	}
	return []api.Event{toClient(conn, bytes)}
}

func (g *secondGateway) allows(tenant, host string, port int) bool {
	for _, line := range g.rules {
		if fits, _ := lineFits(line, tenant, host, port, g.time%10080); fits {
			return strings.HasPrefix(line, "allow")
		}
	}
	return false
}

func splitTarget(target string) (host string, port int, ok bool) {
	host, text, _ := strings.Cut(strings.ToLower(target), ":")
	port, err := strconv.Atoi(text)
	address, wrong := netip.ParseAddr(host)
	ok = isName(host) || wrong == nil && address.Is4()
	return host, port, ok && err == nil && strconv.Itoa(port) == text && 0 <= port && port <= 65535
}

func (g *secondGateway) look(conn int, head string) []api.Event {
	m := headForm.FindStringSubmatch(head)
	if m == nil {
		return refused(conn, api.Bad)
	}
	if m[1] != "CONNECT" {
		return refused(conn, api.Kind)
	}
	host, port, ok := splitTarget(m[2])
	if !ok {
		return refused(conn, api.Bad)
	}
	// Doubled, so that one line's end is not the next one's beginning as well.
	who := saysWho.FindAllStringSubmatch(strings.ReplaceAll(head, "\r\n", "\r\n\r\n"), -1)
	for _, user := range people() {
		said := "Basic " + base64.StdEncoding.EncodeToString([]byte(user.Name+":"+user.Secret))
		if len(who) == 1 && who[0][1] == said {
			if !g.allows(user.Name, host, port) {
				return refused(conn, api.Deny)
			}
			return []api.Event{dial(conn, host, port)}
		}
	}
	return refused(conn, api.Who)
}

func (g *secondGateway) client(conn int, bytes string) []api.Event {
	c := g.conns[conn]
	c.when = g.time
	c.said += bytes
	if c.open == "cd" {
		return nil
	}
	if c.sent > 0 {
		return c.unsent(conn)
	}
	head, _, there := strings.Cut(c.said, "\r\n\r\n")
	if head += "\r\n\r\n"; !there || len(head) > 1000 {
		if len(c.said) < 1000 {
			return nil
		}
		delete(g.conns, conn)
		return refused(conn, api.Bad)
	}
	c.open, c.sent = "cd", len(head)
	events := g.look(conn, head)
	if len(events) == 2 {
		delete(g.conns, conn)
	}
	return events
}

func (g *secondGateway) dialed(conn int, ok bool) []api.Event {
	c := g.conns[conn]
	if !ok {
		delete(g.conns, conn)
		return refused(conn, api.Gone)
	}
	c.open, c.when = "ch", g.time
	return append([]api.Event{toClient(conn, api.Go)}, c.unsent(conn)...)
}

func (c *secondConn) unsent(conn int) []api.Event {
	rest := c.said[c.sent:]
	if c.sent = len(c.said); rest == "" {
		return nil
	}
	return []api.Event{toHost(conn, rest)}
}

func randomHead(r *rand.Rand) string {
	head := pick(r, "CONNECT CONNECT CONNECT CONNECT CONNECT GET connect") + " " +
		pick(r, "x a.x A.X b.com 1.2.3.4 1.2.3 -x x x a.x") + pick(r, ":1 :2 :2 :80 :080 :65536 : :1 :1") + " " +
		pick(r, "HTTP/1.1 HTTP/1.1 HTTP/1.0 HTTP/1.0 HTTP/2") + "\r\n"
	for range r.Intn(3) {
		head += []string{"Host: x\r\n", "a:\r\n", "A-b:  c \r\n", "wrong\r\n", "a:" + strings.Repeat("b", r.Intn(1200)) + "\r\n"}[r.Intn(5)]
	}
	switch r.Intn(8) {
	case 0:
	case 1:
		head += annSays + bobSays
	case 2, 3:
		head += bobSays
	case 4:
		head += strings.Replace(annSays, "A==", pick(r, "B== A= A===  a=="), 1)
	default:
		head += strings.Replace(annSays, "Proxy-Authorization: ", pick(r, "PROXY-AUTHORIZATION: proxy-authorization:"), 1)
	}
	head += "\r\n"
	if at := r.Intn(len(head)); r.Intn(6) == 0 {
		head = head[:at] + randomText(r, 2) + head[at+1:]
	}
	return head
}

// randomPiece gives what a client says next, of what it has yet to say.
func randomPiece(r *rand.Rand, rest string) (piece string, left string) {
	n := len(rest)
	if r.Intn(2) == 0 {
		n = r.Intn(len(rest) + 1)
	}
	return rest[:n], rest[n:]
}

// step makes one call at random of both gateways, and tells which; of what may
// not come every call is refused.
func step(t *testing.T, r *rand.Rand, g *Gateway, second *secondGateway, conn int, unsaid map[int]string) (call string, want []api.Event) {
	t.Helper()
	if !second.may(conn, "c") {
		wantNoMoreOfClient(t, g, conn)
	}
	if !second.may(conn, "d") {
		wantNotDialed(t, g, conn)
	}
	if !second.may(conn, "h") {
		wantNothingOfHost(t, g, conn)
	}
	switch n := r.Intn(20); {
	case n == 0 && second.may(conn, "c"):
		want = second.endClient(conn)
		wantEndClient(t, g, conn, want...)
		return "end of a client", want
	case n < 3 && second.may(conn, "h"):
		want = second.endHost(conn)
		wantEndHost(t, g, conn, want...)
		return "end of a host", want
	case n < 10 && second.may(conn, "d"):
		ok := r.Intn(3) > 0
		want = second.dialed(conn, ok)
		wantDialed(t, g, conn, ok, want...)
		return "dialed", want
	case n < 10 && second.may(conn, "h"):
		bytes := randomText(r, 3)
		want = second.host(conn, bytes)
		wantHost(t, g, conn, bytes, want...)
		return "host", want
	case second.may(conn, "c"):
		piece, rest := randomPiece(r, unsaid[conn])
		unsaid[conn] = rest
		want = second.client(conn, piece)
		wantClient(t, g, conn, piece, want...)
		return "client", want
	}
	return "none", nil
}

// randomRules gives rules some of which are for minutes about this one.
func randomRules(r *rand.Rand, minute int) []string {
	near := func() string { return strconv.Itoa((minute + 10080 + r.Intn(9) - 4) % 10080) }
	lines := []string{"allow * b.com 80 *", pick(r, "allow allow deny") + " ann x * " + near() + "-" + near(), "allow * a.x 1-2 " + near() + "-" + near(), "allow bob 1.2.0.0/16 * *", "allow ann .x * " + near() + "-" + near()}
	r.Shuffle(len(lines), func(i, j int) { lines[i], lines[j] = lines[j], lines[i] })
	return lines[r.Intn(3):]
}

// pass makes a call at random that is of no one connection, of both gateways.
func pass(t *testing.T, r *rand.Rand, g *Gateway, second *secondGateway) (call string) {
	t.Helper()
	switch n := r.Intn(20); {
	case n == 0:
		wantNoTick(t, g, []int{0, -1, 10080, r.Int() + 10080, -r.Int()}[r.Intn(5)])
		return "wrong tick"
	case n < 14:
		minutes := []int{1, 1, 1, 1, 2, 2, 3, 4, 5, 9, 10, 11, 10078 + r.Intn(2), 1 + r.Intn(10079)}[r.Intn(14)]
		want := second.tick(minutes)
		wantTick(t, g, minutes, want...)
		return "tick" + []string{"", ", over"}[min(len(want), 1)]
	case n < 16:
		lines := randomRules(r, second.time)
		wrong := r.Intn(len(lines))
		lines[wrong] = pick(r, "allow deny") + randomText(r, 20) + "\n" + lines[wrong]
		wantNoReload(t, g, strings.Join(lines, "\n")+"\n", api.ErrRule, wrong+1)
		return "wrong reload"
	}
	second.rules = randomRules(r, second.time)
	reloaded(t, g, strings.Join(second.rules, "\n")+"\n")
	return "reload"
}

func TestGatewayAgainstAReference(t *testing.T) {
	r := rand.New(rand.NewSource(6))
	answers := map[string]int{}
	for range 400 {
		minute := []int{0, 5, 5000, 10072, 10079}[r.Intn(5)]
		lines := randomRules(r, minute)
		g, second := gatewayAt(t, strings.Join(lines, "\n")+"\n", minute), &secondGateway{lines, minute, 0, map[int]*secondConn{}}
		unsaid := map[int]string{}
		for range 200 {
			if len(second.conns) == 8 {
				wantFull(t, g)
			} else if r.Intn(4) == 0 {
				second.accept()
				head := headTo("b.com:80", annSays)
				if r.Intn(2) == 0 {
					head = randomHead(r)
				}
				unsaid[second.last] = head + randomText(r, 20)
				accepted(t, g, second.last)
			}
			conn := second.last - 10 + r.Intn(12)
			if open := slices.Sorted(maps.Keys(second.conns)); len(open) > 0 && r.Intn(4) > 0 {
				conn = open[r.Intn(len(open))]
			}
			if r.Intn(8) == 0 {
				answers[pass(t, r, g, second)]++
			}
			call, want := step(t, r, g, second, conn, unsaid)
			if call == "client" && len(want) > 0 {
				answers[want[0].Text]++
			}
			over := ""
			if second.conns[conn] == nil {
				over = ", over"
			}
			answers[call+over]++
		}
	}
	for _, answer := range []string{api.Bad, api.Kind, api.Who, api.Deny, "x", "a.x", "dialed", "dialed, over", "host", "end of a client", "end of a client, over", "end of a host", "end of a host, over", "tick", "tick, over", "wrong tick", "reload", "wrong reload"} {
		if answers[answer] < 50 {
			t.Errorf("%q was tried only %d times", answer, answers[answer])
		}
	}
}
