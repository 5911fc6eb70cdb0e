package heads

import (
	"strings"

	"turnpike/words"
)

// Target is a host, in small letters, and a port.
type Target struct {
	Host string
	Port int
}

// ReadTarget reads a target.
func ReadTarget(text string) Target {
	host, port, found := strings.Cut(text, ":")
	words.Must(found, "a host, : and a port")
	// Read only to see that it is one: who is called is told by a text.
	words.ReadHost(host)
	return Target{Host: words.Lower(host), Port: words.Port(port)}
}
