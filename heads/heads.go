// Package heads finds the head that a client's bytes begin with, and reads it.
// Its readers give up by panic, as those of package words do.
package heads

import (
	"bytes"
	"strings"

	"turnpike/api"
	"turnpike/words"
)

const (
	lineEnd = "\r\n"
	headEnd = lineEnd + lineEnd
)

// Head is a head that was read.
type Head struct {
	Method, Target string
	Fields         []Field
}

// Field is one of its fields; the name is in small letters.
type Field struct {
	Name, Value string
}

// Cut parts bytes behind the head, and tells whether they are enough for that.
// They are, without a head, once none can be among those that may hold it: then
// all of these are given for it, and Read finds them wrong.
func Cut(all []byte) (head string, rest []byte, enough bool) {
	first := all[:min(len(all), api.MaxHead)]
	if at := bytes.Index(first, []byte(headEnd)); at >= 0 {
		length := at + len(headEnd)
		return string(all[:length]), all[length:], true
	}
	if len(first) < api.MaxHead {
		return "", nil, false
	}
	return string(first), nil, true
}

// Read reads a head.
func Read(text string) Head {
	body, ended := strings.CutSuffix(text, headEnd)
	words.Must(ended, "a head with an empty line at its end")
	lines := strings.Split(body, lineEnd)
	head := readFirst(lines[0])
	for _, line := range lines[1:] {
		head.Fields = append(head.Fields, readField(line))
	}
	return head
}

// Only gives the value of the field of that name (in small letters), and
// whether there is just one.
func (h Head) Only(name string) (value string, one bool) {
	count := 0
	for _, field := range h.Fields {
		if field.Name == name {
			value = field.Value
			count++
		}
	}
	return value, count == 1
}

func readFirst(line string) Head {
	parts := strings.Split(line, " ")
	words.Must(len(parts) == 3, "a method, a target and a version with one space between each two")
	method, target, version := parts[0], parts[1], parts[2]
	words.Must(method != "" && words.All(method, words.IsGreat), "a method of great letters")
	words.Must(target != "" && words.All(target, words.IsSeen), "a target of bytes from 33 to 126")
	words.Must(version == "HTTP/1.1" || version == "HTTP/1.0", "HTTP/1.1 or HTTP/1.0")
	return Head{Method: method, Target: target}
}

func readField(line string) Field {
	name, value, found := strings.Cut(line, ":")
	words.Must(found, "a field with : behind its name")
	words.Must(name != "" && words.All(name, isOfName), "a field's name of letters, figures and -")
	words.Must(words.All(value, isOfValue), "a field's value of bytes from 32 to 126")
	return Field{Name: words.Lower(name), Value: strings.Trim(value, " ")}
}

func isOfName(c byte) bool {
	return words.IsSmall(c) || words.IsGreat(c) || words.IsFigure(c) || c == '-'
}

func isOfValue(c byte) bool { return c == ' ' || words.IsSeen(c) }
