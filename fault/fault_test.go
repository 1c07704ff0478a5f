package fault_test

import (
	"errors"
	"fmt"
	"math"
	"slices"
	"strings"
	"testing"

	"isogloss/api"
	"isogloss/fault"
)

// other is an error of another make, with one within.
type other struct{ inner error }

func (o *other) Error() string { return "other: " + o.inner.Error() }
func (o *other) Unwrap() error { return o.inner }

// says is an error that passes for a number by its own methods.
type says struct {
	kind  api.Errno
	inner error
}

func (s says) Error() string        { return "says" }
func (s says) Unwrap() error        { return s.inner }
func (s says) Is(target error) bool { return target == error(s.kind) }
func (s says) As(target any) bool {
	k, ok := target.(*api.Errno)
	if ok {
		*k = s.kind
	}
	return ok
}

// listed is an error that can't be compared.
type listed struct{ inner []error }

func (l listed) Error() string { return "listed" }
func (l listed) Unwrap() error { return l.inner[0] }

// broken panics whatever it is asked.
type broken struct{}

func (broken) Error() string   { panic("Error") }
func (broken) Unwrap() error   { panic("Unwrap") }
func (broken) Is(error) bool   { panic("Is") }
func (broken) As(any) bool     { panic("As") }
func noFault() error           { return (*fault.Fault)(nil) }
func of(inner error) error     { return &fault.Fault{At: 5, What: "w", Inner: inner} }
func show(l []string) string   { return fmt.Sprintf("%q", l) }
func kinds() []api.Errno       { return append(listedKinds(), -1, 2, 99, math.MaxInt, math.MinInt) }
func listedKinds() []api.Errno { return []api.Errno{1, 10, 11, 12, 13, 14, 15, 16} }

// P1.1: New.
func TestNew(t *testing.T) {
	for _, at := range []int{0, 7, -7, math.MinInt, math.MaxInt} {
		if e := fault.New(api.OK, at, "what"); e != nil {
			t.Errorf("New(OK, %d): %v, want nil", at, e)
		}
		for _, kind := range kinds() {
			f, ok := fault.New(kind, at, "what").(*fault.Fault)
			if !ok || f == nil || *f != (fault.Fault{At: at, What: "what", Inner: kind}) {
				t.Errorf("New(%d, %d): %+v", kind, at, f)
			}
		}
	}
	if a, b := fault.New(api.ErrArg, 1, "x"), fault.New(api.ErrArg, 1, "x"); a == b {
		t.Error("New hands out one fault twice")
	}
}

// P1.1: Wrap.
func TestWrap(t *testing.T) {
	if e := fault.Wrap(nil, 3, "what"); e != nil {
		t.Errorf("Wrap(nil): %v, want nil", e)
	}
	for _, inner := range []error{api.ErrForm, api.OK, errors.New("x"), noFault(), fault.New(api.ErrArg, 1, "y"), &other{api.ErrArg}} {
		f, ok := fault.Wrap(inner, -3, "what").(*fault.Fault)
		if !ok || f == nil || *f != (fault.Fault{At: -3, What: "what", Inner: inner}) {
			t.Errorf("Wrap(%v): %+v", inner, f)
		}
	}
	inner := &fault.Fault{At: 1, What: "in", Inner: api.ErrNone}
	fault.Wrap(inner, 2, "out")
	if *inner != (fault.Fault{At: 1, What: "in", Inner: api.ErrNone}) {
		t.Errorf("Wrap changes what is handed in: %+v", inner)
	}
}

// P1.1: Error.
func TestError(t *testing.T) {
	for _, c := range []struct {
		e    error
		want string
	}{
		{fault.New(api.ErrSyntax, 3, "subtag"), "subtag at 3: isogloss: error 10"},
		{fault.New(api.ErrSyntax, 0, ""), " at 0: isogloss: error 10"},
		{fault.New(-4, -12, "x"), "x at -12: isogloss: error -4"},
		{fault.New(api.ErrMany, math.MaxInt, "x"), "x at 9223372036854775807: isogloss: error 16"},
		{fault.New(api.ErrMany, math.MinInt, "x"), "x at -9223372036854775808: isogloss: error 16"},
		{fault.Wrap(fault.New(api.ErrSyntax, 3, "subtag"), 10, "tag"), "tag at 10: subtag at 3: isogloss: error 10"},
		{fault.Wrap(errors.New("strange"), 1, "x"), "x at 1: strange"},
		{fault.Wrap(&other{fault.New(api.ErrNone, 2, "in")}, 1, "out"), "out at 1: other: in at 2: isogloss: error 15"},
		{of(nil), "w at 5: none"},
		{of(of(nil)), "w at 5: w at 5: none"},
		{of(noFault()), "w at 5: none"},
		{of(of(noFault())), "w at 5: w at 5: none"},
		{&fault.Fault{}, " at 0: none"},
		{noFault(), "none"},
	} {
		if got := c.e.Error(); got != c.want {
			t.Errorf("Error: %q, want %q", got, c.want)
		}
	}
}

// P1.1: Unwrap.
func TestUnwrap(t *testing.T) {
	inner := fault.New(api.ErrLoop, 1, "in")
	if got := errors.Unwrap(fault.Wrap(inner, 2, "out")); got != inner {
		t.Errorf("Unwrap: %v, want %v", got, inner)
	}
	if got := errors.Unwrap(fault.New(api.ErrLoop, 2, "x")); got != error(api.ErrLoop) {
		t.Errorf("Unwrap: %v, want the kind", got)
	}
	if got := errors.Unwrap(of(noFault())); got != noFault() {
		t.Errorf("Unwrap: %v, want the nil fault", got)
	}
	for _, e := range []error{of(nil), noFault()} {
		if got := errors.Unwrap(e); got != nil {
			t.Errorf("Unwrap(%v): %v, want nil", e, got)
		}
	}
}

// asked is what an error tells by P1.2.
type asked struct {
	name         string
	e            error
	kind         api.Errno
	place, total int
	whats        []string
}

func rows() []asked {
	two := fault.Wrap(fault.New(api.ErrSyntax, 3, "subtag"), 10, "tag")
	return []asked{
		{"nil", nil, api.OK, -1, 0, nil},
		{"a number", api.ErrForm, api.ErrForm, -1, 0, nil},
		{"the number OK", api.OK, api.OK, -1, 0, nil},
		{"a number of no name", api.Errno(-8), -8, -1, 0, nil},
		{"one", fault.New(api.ErrForm, 4, "x"), api.ErrForm, 4, 4, []string{"x"}},
		{"two", two, api.ErrSyntax, 10, 13, []string{"tag", "subtag"}},
		{"three", fault.Wrap(two, 0, ""), api.ErrSyntax, 0, 13, []string{"", "tag", "subtag"}},
		{"below 0", fault.Wrap(fault.New(api.ErrLoop, -9, "b"), -1, "a"), api.ErrLoop, -1, -10, []string{"a", "b"}},
		{"around OK", fault.Wrap(api.OK, 2, "x"), api.OK, 2, 2, []string{"x"}},
		{"other, no fault", errors.New("x"), api.ErrArg, -1, 0, nil},
		{"other around a number", &other{api.ErrMany}, api.ErrMany, -1, 0, nil},
		{"other within", fault.Wrap(errors.New("x"), 6, "y"), api.ErrArg, 6, 6, []string{"y"}},
		{"other between", fault.Wrap(fmt.Errorf("f: %w", &other{two}), 100, "all"), api.ErrSyntax, 100, 113, []string{"all", "tag", "subtag"}},
		{"other ahead", &other{two}, api.ErrSyntax, 10, 13, []string{"tag", "subtag"}},
		{"nothing within other", fault.Wrap(&other{nil}, 1, "x"), api.ErrArg, 1, 1, []string{"x"}},
		{"not to be compared", fault.Wrap(listed{[]error{two}}, 1, "x"), api.ErrSyntax, 1, 14, []string{"x", "tag", "subtag"}},
		{"a nil fault", noFault(), api.ErrArg, -1, 0, nil},
		{"a nil fault within", of(noFault()), api.ErrArg, 5, 5, []string{"w"}},
		{"a nil fault within other", &other{noFault()}, api.ErrArg, -1, 0, nil},
		{"nothing within", of(nil), api.ErrArg, 5, 5, []string{"w"}},
		{"the zero fault", &fault.Fault{}, api.ErrArg, 0, 0, []string{""}},
		{"round", fault.Wrap(fault.New(api.ErrForm, 1, "b"), math.MaxInt, "a"), api.ErrForm, math.MaxInt, math.MinInt, []string{"a", "b"}},
		{"joined, of no row", fault.Wrap(errors.Join(two, api.ErrForm), 1, "x"), api.ErrArg, 1, 1, []string{"x"}},
		{"passing for a number", fault.Wrap(says{api.ErrOrder, two}, 1, "x"), api.ErrOrder, 1, 14, []string{"x", "tag", "subtag"}},
	}
}

// P1.2: Kind, Place, Total and Whats.
func TestAsked(t *testing.T) {
	for _, c := range rows() {
		for range 2 { // the same calls have the same answers
			if got := fault.Kind(c.e); got != c.kind {
				t.Errorf("%s: Kind %d, want %d", c.name, got, c.kind)
			}
			if got := fault.Place(c.e); got != c.place {
				t.Errorf("%s: Place %d, want %d", c.name, got, c.place)
			}
			if got := fault.Total(c.e); got != c.total {
				t.Errorf("%s: Total %d, want %d", c.name, got, c.total)
			}
			if got := fault.Whats(c.e); !slices.Equal(got, c.whats) {
				t.Errorf("%s: Whats %s, want %s", c.name, show(got), show(c.whats))
			}
		}
	}
}

// P1.2: Has.
func TestHas(t *testing.T) {
	for _, c := range rows() {
		known := c.e != nil && c.kind != api.ErrArg
		for _, kind := range append(kinds(), api.OK, -8) {
			want := known && kind == c.kind || strings.HasPrefix(c.name, "passing") && kind == api.ErrSyntax
			if got := fault.Has(c.e, kind); got != want {
				t.Errorf("%s: Has %d: %t, want %t", c.name, kind, got, want)
			}
		}
	}
	if e := fault.New(api.ErrArg, 1, "x"); !fault.Has(e, api.ErrArg) || fault.Kind(e) != api.ErrArg {
		t.Errorf("%v: ErrArg is not found in its row", e)
	}
}

// P1.2: what is told is the caller's (R3).
func TestWhatsIsNew(t *testing.T) {
	e := fault.Wrap(fault.New(api.ErrForm, 1, "in"), 2, "out")
	fault.Whats(e)[0] = "changed"
	if got := fault.Whats(e); !slices.Equal(got, []string{"out", "in"}) {
		t.Errorf("Whats: %s", show(got))
	}
}

// Whole, example 1: a fault at 3 within one at 10 is at 13 altogether; its kind is that of the inner one.
func TestExample(t *testing.T) {
	e := fault.Wrap(fault.New(api.ErrSyntax, 3, "subtag"), 10, "tag")
	if k, p, s := fault.Kind(e), fault.Place(e), fault.Total(e); k != api.ErrSyntax || p != 10 || s != 13 {
		t.Errorf("Kind %d, Place %d, Total %d", k, p, s)
	}
}
