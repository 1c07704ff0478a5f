package fault

import (
	"errors"
	"iter"

	"isogloss/api"
)

// mostOthers is how many errors of another make a row has at most. It is far beyond the document's
// bound on nesting, and ends the row of an error that makes another one whenever it is asked.
const mostOthers = 1 << 20

// An error that has another one within has one of these.
type (
	wrapper  interface{ Unwrap() error }
	wrappers interface{ Unwrap() []error }
)

// row tells an error's row, the outermost first.
func row(e error) iter.Seq[error] {
	return func(yield func(error) bool) {
		// mark is a fault that was told. It moves on at each power of two, so that a row that goes
		// round comes back to it, however late its circle begins, and is left there.
		var mark *Fault
		told, others := 0, 0
		for x := e; x != nil && others < mostOthers; x = inner(x) {
			f, ok := x.(*Fault)
			switch {
			case !ok || f == nil:
				others++
			case f == mark:
				return
			default:
				told++
				if told&(told-1) == 0 {
					mark = f
				}
			}
			if !yield(x) {
				return
			}
		}
	}
}

// faults tells the faults of an error's row.
func faults(e error) iter.Seq[*Fault] {
	return func(yield func(*Fault) bool) {
		for x := range row(e) {
			if f, ok := x.(*Fault); ok && f != nil && !yield(f) {
				return
			}
		}
	}
}

// inner is what an error's Unwrap tells; nil, too, where that panics, as methods of other makes may at a nil pointer.
func inner(e error) (next error) {
	defer func() { _ = recover() }()
	if w, ok := e.(wrapper); ok {
		return w.Unwrap()
	}
	return nil
}

// text is the Error of what lies within f. There is none where it panics, nor where it would ask f again, and so on for ever.
func text(e error, f *Fault) (s string) {
	s = none
	defer func() { _ = recover() }()
	for g := range faults(e) {
		if g == f {
			return none
		}
	}
	return e.Error()
}

// asErrno is an error of a row as a number, if it is one.
func asErrno(e error) (kind api.Errno, ok bool) {
	defer func() { _ = recover() }()
	ok = errors.As(alone(e), &kind)
	return kind, ok
}

// isErrno tells whether an error of a row is such a number.
func isErrno(e error, kind api.Errno) (ok bool) {
	defer func() { _ = recover() }()
	return errors.Is(alone(e), kind)
}

// alone is an error without what lies within it. Package errors would go on there by itself: without end where
// a row goes round, and into errors that have several within, which are of no row.
func alone(e error) error {
	switch e.(type) {
	case wrapper, wrappers:
		return shell{e}
	}
	return e
}

// shell is an error's own say: all of its methods that package errors asks, but for Unwrap.
type shell struct{ error }

// Is tells what the error's own Is tells.
func (s shell) Is(target error) bool {
	if x, ok := s.error.(interface{ Is(error) bool }); ok {
		return x.Is(target)
	}
	return false
}

// As tells what the error's own As tells.
func (s shell) As(target any) bool {
	if x, ok := s.error.(interface{ As(any) bool }); ok {
		return x.As(target)
	}
	return false
}
