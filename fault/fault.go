// Package fault is layer 1: errors that tell what, and where. See shared/doc/01-fault.md.
package fault

import (
	"strconv"
	"strings"

	"isogloss/api"
)

// none is told of an error that tells nothing itself.
const none = "none"

// Fault tells what, and where.
type Fault struct {
	At    int
	What  string
	Inner error
}

// Error tells a fault, and what lies within it.
func (f *Fault) Error() string {
	if f == nil {
		return none
	}
	var b strings.Builder
	// Faults are gone over, not asked in turn: a deep row stays quick, and one that goes round ends.
	for x := range row(f) {
		g, ok := x.(*Fault)
		if !ok || g == nil {
			b.WriteString(text(x, f))
			return b.String()
		}
		b.WriteString(g.What)
		b.WriteString(" at ")
		b.WriteString(strconv.Itoa(g.At))
		b.WriteString(": ")
	}
	b.WriteString(none)
	return b.String()
}

// Unwrap tells what lies within a fault.
func (f *Fault) Unwrap() error {
	if f == nil {
		return nil
	}
	return f.Inner
}

// New makes a fault of a kind, and none of OK.
func New(kind api.Errno, at int, what string) error {
	if kind == api.OK {
		return nil
	}
	return &Fault{At: at, What: what, Inner: kind}
}

// Wrap makes a fault around an error, and none around nil.
func Wrap(e error, at int, what string) error {
	if e == nil {
		return nil
	}
	return &Fault{At: at, What: what, Inner: e}
}

// Kind is the first number of an error's row.
func Kind(e error) api.Errno {
	if e == nil {
		return api.OK
	}
	for x := range row(e) {
		if kind, ok := asErrno(x); ok {
			return kind
		}
	}
	return api.ErrArg
}

// Has tells whether a kind is in an error's row.
func Has(e error, kind api.Errno) bool {
	for x := range row(e) {
		if isErrno(x, kind) {
			return true
		}
	}
	return false
}

// Place is where the first fault of an error's row is.
func Place(e error) int {
	for f := range faults(e) {
		return f.At
	}
	return -1
}

// Total is the sum of the places of an error's faults.
func Total(e error) int {
	sum := 0
	for f := range faults(e) {
		sum += f.At
	}
	return sum
}

// Whats is what an error's faults tell.
func Whats(e error) []string {
	var whats []string
	for f := range faults(e) {
		whats = append(whats, f.What)
	}
	return whats
}
