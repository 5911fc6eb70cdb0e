// Package rules reads rules, and holds questions against them. Its readers give
// up by panic, as those of package words do.
package rules

import (
	"strings"

	"turnpike/api"
	"turnpike/words"
)

// Rule is a rule that was read: what it says, and for each of the four things
// that are asked whether it fits.
type Rule struct {
	Allow  bool
	Tenant func(tenant string) bool
	Host   func(host words.Host) bool
	Port   func(port int) bool
	Minute func(minute int) bool
}

// Question is who wants to go where, and when.
type Question struct {
	Tenant string
	Host   words.Host
	Port   int
	Minute int
}

// Ask reads a question.
func Ask(tenant string, host string, port int, minute int) Question {
	words.Must(0 <= port && port <= api.MaxPort, "a port")
	words.Must(0 <= minute && minute < api.Minutes, "a minute of the week")
	return Question{words.Tenant(tenant), words.ReadHost(host), port, minute}
}

// Fits tells whether the rule fits the question in all four fields.
func (r Rule) Fits(q Question) bool {
	return r.Tenant(q.Tenant) && r.Host(q.Host) && r.Port(q.Port) && r.Minute(q.Minute)
}

// Read reads a rule.
func Read(line string) Rule {
	fields := strings.Split(line, " ")
	words.Must(len(fields) == 5, "five fields with one space between each two")
	return Rule{
		Allow:  readVerdict(fields[0]),
		Tenant: readTenant(fields[1]),
		Host:   readHost(fields[2]),
		Port:   readPort(fields[3]),
		Minute: readMinute(fields[4]),
	}
}
