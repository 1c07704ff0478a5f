package image

import (
	"strings"

	"isogloss/api"
	"isogloss/fault"
	"isogloss/table"
)

// part is all rows of one kind of things.
type part struct {
	// what is told by its faults.
	what string
	// width and key are how long its rows and their keys are; without a key, rows stand as the things do.
	width, key int
	rows       []string
	// wrong tells the first thing that is not right, if there is one.
	wrong error
}

// rows makes a part of things, each of which has a row, and is right or not.
func rows[T any](p part, things []T, row func(T) (string, bool)) part {
	for i, x := range things {
		one, ok := row(x)
		if !ok {
			p.wrong = fault.New(api.ErrForm, i, p.what)
			return p
		}
		p.rows = append(p.rows, one)
	}
	return p
}

// bytes is the rows of a part whose things are all right, one behind the other.
func (p part) bytes() (string, error) {
	if p.key == 0 {
		return strings.Join(p.rows, ""), nil
	}
	t, e := table.Build(p.width, p.key, p.rows...)
	if e != nil {
		// Its sizes are right, so two of its rows have the same key.
		return "", fault.New(api.ErrOrder, 0, p.what)
	}
	return t.Bytes(), nil
}
