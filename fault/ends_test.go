package fault_test

import (
	"errors"
	"strings"
	"testing"

	"isogloss/api"
	"isogloss/fault"
)

// endless has a new error of its make within, always.
type endless struct{ depth int }

func (e endless) Error() string { return "endless" }
func (e endless) Unwrap() error { return endless{e.depth + 1} }

// ask makes every call about an error.
func ask(e error) (kind api.Errno, has bool, place int) {
	fault.Total(e)
	fault.Whats(e)
	_ = fault.Wrap(e, 1, "x").Error()
	return fault.Kind(e), fault.Has(e, api.ErrForm), fault.Place(e)
}

// ring is a fault that has itself within after so many faults, each of them in an error of another make if others
// says so; lead faults lie around it.
func ring(faults, lead int, others bool) error {
	last := &fault.Fault{At: 1, What: "w"}
	var e error = last
	for range faults - 1 {
		e = fault.Wrap(e, 1, "w")
		if others {
			e = &other{e}
		}
	}
	last.Inner = e
	if others {
		last.Inner = &other{e}
	}
	for range lead {
		e = fault.Wrap(e, 1, "w")
	}
	return fault.Wrap(e, 1, "w")
}

// P1: a row that goes round ends, and has no number.
func TestRound(t *testing.T) {
	for _, others := range []bool{false, true} {
		for _, size := range []int{1, 2, 3, 4, 7, 100} {
			for _, lead := range []int{0, 1, 5, 64} {
				e := ring(size, lead, others)
				if k, h, p := ask(e); k != api.ErrArg || h || p != 1 {
					t.Errorf("ring of %d, lead %d: Kind %d, Has %t, Place %d", size, lead, k, h, p)
				}
				if !strings.HasSuffix(e.Error(), "none") {
					t.Errorf("ring of %d, lead %d: Error %.100s", size, lead, e.Error())
				}
			}
		}
	}
	one := &fault.Fault{At: 3, What: "w"}
	one.Inner = one
	if fault.Total(one) != 3 || len(fault.Whats(one)) != 1 || one.Error() != "w at 3: none" {
		t.Errorf("a fault within itself: Total %d, %s", fault.Total(one), one.Error())
	}
}

// P1: a row of other errors that goes on for ever ends.
func TestEndless(t *testing.T) {
	o := &other{}
	o.inner = o
	for _, e := range []error{endless{}, fault.Wrap(endless{}, 1, "x")} {
		if k, h, _ := ask(e); k != api.ErrArg || h {
			t.Errorf("endless: Kind %d, Has %t", k, h)
		}
	}
	if k, h, p := fault.Kind(o), fault.Has(o, api.ErrForm), fault.Place(o); k != api.ErrArg || h || p != -1 {
		t.Errorf("other within itself: Kind %d, Has %t, Place %d", k, h, p)
	}
}

// P1: errors whose own methods panic are asked nonetheless, and what they can't tell is none.
func TestBroken(t *testing.T) {
	for _, e := range []error{broken{}, (*other)(nil), (*broken)(nil), listed{}} {
		if k, h, p := ask(e); k != api.ErrArg || h || p != -1 {
			t.Errorf("Kind %d, Has %t, Place %d", k, h, p)
		}
	}
	for _, e := range []error{broken{}, (*other)(nil), (*broken)(nil), &other{}} {
		if got := fault.Wrap(e, 1, "x").Error(); got != "x at 1: none" {
			t.Errorf("Error: %q", got)
		}
	}
}

// Limits: rows of 2^16 errors are answered in full.
func TestDeep(t *testing.T) {
	const depth = 1 << 16
	e, o := error(api.ErrForm), error(api.ErrForm)
	for range depth {
		e, o = fault.Wrap(e, 2, "w"), &other{o}
	}
	if k, h, p := ask(e); k != api.ErrForm || !h || p != 2 {
		t.Errorf("Kind %d, Has %t, Place %d", k, h, p)
	}
	if s, n := fault.Total(e), len(fault.Whats(e)); s != 2*depth || n != depth {
		t.Errorf("Total %d, %d Whats", s, n)
	}
	if got, want := e.Error(), strings.Repeat("w at 2: ", depth)+api.ErrForm.Error(); got != want {
		t.Errorf("Error has %d bytes, want %d", len(got), len(want))
	}
	if k, h := fault.Kind(o), fault.Has(o, api.ErrForm); k != api.ErrForm || !h {
		t.Errorf("others: Kind %d, Has %t", k, h)
	}
}

// The errors are wrapped as the library's are: it finds what lies within.
func TestLibrary(t *testing.T) {
	in := &fault.Fault{At: 1, What: "in", Inner: api.ErrLoop}
	e := fault.Wrap(&other{in}, 2, "out")
	var k api.Errno
	if !errors.As(e, &k) || k != api.ErrLoop || !errors.Is(e, in) || !errors.Is(e, api.ErrLoop) || errors.Is(e, api.ErrForm) {
		t.Errorf("%v: the library finds %d", e, k)
	}
}
