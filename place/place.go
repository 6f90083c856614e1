// Package place is layer 1: see shared/doc/01-place.md.
package place

import (
	"cmp"
	"iter"
	"strconv"
	"strings"

	"filigree/api"
)

// Mark is a place.
type Mark struct{ Line, Column int }

// Fault is what is told of one.
type Fault struct {
	Code api.Errno
	At   Mark
	Word string
}

// words are the errors' names, at their numbers.
var words = [...]string{
	api.OK:         "ok",
	api.ErrArg:     "argument",
	api.ErrLong:    "limit",
	api.ErrForm:    "form",
	api.ErrName:    "name",
	api.ErrType:    "type",
	api.ErrPattern: "pattern",
	api.ErrRule:    "rule",
	api.ErrOrder:   "order",
	api.ErrClash:   "clash",
	api.ErrNone:    "none",
	api.ErrFuel:    "fuel",
	api.ErrProof:   "proof",
	api.ErrState:   "state",
}

// lines gives each line of s without its byte 10, and how many bytes of s
// stand ahead of it. The last line is given even if it is empty, so that
// every text has one at least.
func lines(s string) iter.Seq2[int, string] {
	return func(yield func(int, string) bool) {
		start := 0
		for {
			length := strings.IndexByte(s[start:], '\n')
			if length < 0 {
				yield(start, s[start:])
				return
			}
			if !yield(start, s[start:start+length]) {
				return
			}
			start += length + 1
		}
	}
}

// find tells the line of number n and how many bytes stand ahead of it.
func find(s string, n int) (int, string, bool) {
	number := 0
	for start, line := range lines(s) {
		number++
		if number == n {
			return start, line, true
		}
	}
	return 0, "", false
}

// Of tells the place that at bytes of s stand ahead of.
func Of(s string, at int) (Mark, api.Errno) {
	if at < 0 || at > len(s) {
		return Mark{}, api.ErrArg
	}
	m := Mark{}
	for start := range lines(s) {
		if start > at {
			break
		}
		m.Line++
		m.Column = at - start + 1
	}
	return m, api.OK
}

// At tells how many bytes of s stand ahead of m.
func At(s string, m Mark) (int, api.Errno) {
	start, line, ok := find(s, m.Line)
	// len(line)+1 is a column too: the place behind the line's last byte.
	if !ok || m.Column < 1 || m.Column > len(line)+1 {
		return 0, api.ErrNone
	}
	return start + m.Column - 1, api.OK
}

// Lines tells how many lines s has.
func Lines(s string) int {
	n := 0
	for range lines(s) {
		n++
	}
	return n
}

// Line tells the line of number n.
func Line(s string, n int) (string, api.Errno) {
	_, line, ok := find(s, n)
	if !ok {
		return "", api.ErrNone
	}
	// An answer shares no memory with an argument.
	return strings.Clone(line), api.OK
}

// Compare tells -1, 0 or 1, as a is ahead of b, the same, or behind it.
func Compare(a, b Mark) int {
	return cmp.Or(cmp.Compare(a.Line, b.Line), cmp.Compare(a.Column, b.Column))
}

// First tells the fault whose place is ahead of the others'.
func First(l ...Fault) (Fault, bool) {
	first, found := Fault{}, false
	for _, f := range l {
		if f.Code == api.OK {
			continue
		}
		// Only one that is strictly ahead takes over: at the same place the
		// first one stays.
		if !found || Compare(f.At, first.At) < 0 {
			first, found = f, true
		}
	}
	// An answer shares no memory with an argument.
	first.Word = strings.Clone(first.Word)
	return first, found
}

// Text tells a fault in one line: its place, its code's word and its own.
func Text(f Fault) string {
	text := strconv.Itoa(f.At.Line) + ":" + strconv.Itoa(f.At.Column) + ": " + Name(f.Code)
	if f.Word != "" {
		text += " " + f.Word
	}
	return text
}

// Name tells an error's word, or a question mark if there is no such error.
func Name(e api.Errno) string {
	if e < 0 || int(e) >= len(words) {
		return "?"
	}
	return words[e]
}
