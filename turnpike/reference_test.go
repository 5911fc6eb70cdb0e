package turnpike

import (
	"math/rand"
	"net/netip"
	"regexp"
	"strconv"
	"strings"
	"testing"

	"turnpike/api"
)

// What follows reads rules a second time, by means that the program does not
// use, so that a slip would have to be made twice to go unseen.

var (
	ruleForm   = regexp.MustCompile(`^(allow|deny) (\*|[a-z]{1,8}) ([^ ]+) (\*|` + numberForm + `(?:-` + numberForm + `)?) (\*|` + numberForm + `-` + numberForm + `)$`)
	nameForm   = regexp.MustCompile(`^` + labelForm + `(\.` + labelForm + `){0,4}$`)
	figuresEnd = regexp.MustCompile(`(^|\.)[0-9]+$`)
)

const (
	numberForm = `(?:0|[1-9][0-9]{0,4})`
	labelForm  = `[a-z0-9]([a-z0-9-]{0,18}[a-z0-9])?`
)

func isName(text string) bool {
	return nameForm.MatchString(text) && !figuresEnd.MatchString(text)
}

func spanOf(field string, highest int) (first, last int, ok bool) {
	if field == "*" {
		return 0, highest, true
	}
	from, to, two := strings.Cut(field, "-")
	if !two {
		to = from
	}
	first, _ = strconv.Atoi(from)
	last, _ = strconv.Atoi(to)
	return first, last, first <= highest && last <= highest
}

// hostFits tells whether the field is one, and whether it fits the host.
func hostFits(field, host string) (fits, ok bool) {
	if field == "*" {
		return true, true
	}
	if strings.Contains(field, "/") {
		net, err := netip.ParsePrefix(field)
		if err != nil || !net.Addr().Is4() || net.Masked() != net {
			return false, false
		}
		address, err := netip.ParseAddr(host)
		return err == nil && net.Contains(address), true
	}
	name, domain := strings.CutPrefix(field, ".")
	return host == name || domain && strings.HasSuffix(host, field), isName(name)
}

// lineFits tells whether the line is a rule, and whether it fits; the question is right, its host in small letters.
func lineFits(line, tenant, host string, port, minute int) (fits, ok bool) {
	m := ruleForm.FindStringSubmatch(line)
	if m == nil {
		return false, false
	}
	hostYes, hostOK := hostFits(m[3], host)
	low, high, portOK := spanOf(m[4], api.MaxPort)
	from, to, minuteOK := spanOf(m[5], api.Minutes-1)
	if !hostOK || !portOK || !minuteOK || low > high {
		return false, false
	}
	in := from <= minute && minute <= to
	if from > to {
		in = !(to < minute && minute < from)
	}
	return (m[2] == "*" || m[2] == tenant) && hostYes && low <= port && port <= high && in, true
}

func pick(r *rand.Rand, from string) string {
	words := strings.Split(from, " ")
	return words[r.Intn(len(words))]
}

func randomLine(r *rand.Rand) string {
	line := pick(r, "allow deny") + " " + pick(r, "* * ann bob letterss") + " " +
		pick(r, "* x .x a.x .b.com b.com 1.a 0.0.0.0/0 10.0.0.0/8 10.1.0.0/16 10.1.2.2/31 10.1.2.3/32 128.0.0.0/1 10.64.0.0/10") + " " +
		pick(r, "* * 0 80 80-80 79-443 0-65535 65535 1-2") + " " + pick(r, "* * 0-0 5-6 6-5 10079-0 0-10079 600-60")
	if r.Intn(3) > 0 {
		return line
	}
	at := r.Intn(len(line))
	const put = "0123456789 -./*axZ\t\xff"
	switch c := string(put[r.Intn(len(put))]); r.Intn(3) {
	case 0:
		return line[:at] + line[at+1:]
	case 1:
		return line[:at] + c + line[at+1:]
	default:
		return line[:at] + c + line[at:]
	}
}

func TestAgainstAReference(t *testing.T) {
	r := rand.New(rand.NewSource(2))
	for range 20000 {
		lines := make([]string, r.Intn(4))
		tenant, host := pick(r, "ann bob letterss zz"), pick(r, "x a.x ax b.com a.b.com ab.com 1.a 10.1.2.3 10.1.2.2 10.2.0.0 10.64.0.1 10.128.0.0 11.0.0.0 200.1.1.1 0.0.0.0")
		port, minute := []int{0, 1, 2, 79, 80, 443, 65535}[r.Intn(7)], []int{0, 1, 5, 6, 60, 61, 599, 600, 10079}[r.Intn(9)]
		wrong, allowed, number := 0, false, -1
		for k := range lines {
			lines[k] = randomLine(r)
			fits, ok := lineFits(lines[k], tenant, host, port, minute)
			if !ok && wrong == 0 {
				wrong = k + 1
			}
			if fits && number < 0 {
				allowed, number = strings.HasPrefix(lines[k], "allow"), k
			}
		}
		text := strings.Join(append(lines, ""), "\n")
		if wrong > 0 {
			wantCompile(t, text, api.ErrRule, wrong)
			continue
		}
		p := compiled(t, text)
		wantDecide(t, p, tenant, host, port, minute, allowed, number)
		wantDecide(t, p, tenant, strings.ToUpper(host), port, minute, allowed, number)
	}
}
