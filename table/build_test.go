package table_test

import (
	"fmt"
	"slices"
	"strings"
	"testing"

	"isogloss/api"
	"isogloss/table"
)

// holdBuild holds Build of rows against the rows that it must have in order, or what is wrong; New of its bytes is the same, and the rows stay as they were.
func holdBuild(t *testing.T, width, key int, given []string, want wrong, rows ...string) {
	t.Helper()
	call := fmt.Sprintf("Build(%d, %d, %q)", width, key, given)
	before := slices.Clone(given)
	for range 2 {
		x, e := table.Build(width, key, given...)
		if holdError(t, call, x, e, want) {
			holdRows(t, call, x, rows)
			holdNew(t, width, key, x.Bytes(), right, rows...)
		}
	}
	if !slices.Equal(given, before) {
		t.Errorf("%s changed its rows to %q", call, given)
	}
}

// orders does something with a row in each of its orders.
func orders(row []string, do func(row []string)) {
	if len(row) == 0 {
		do(nil)
	}
	for i, s := range row {
		orders(slices.Concat(row[:i], row[i+1:]), func(left []string) { do(append([]string{s}, left...)) })
	}
}

// P11.1: rows in whatever order are the same table.
func TestBuild(t *testing.T) {
	for _, c := range []struct {
		width, key int
		rows       string
	}{
		// The chapter's example.
		{3, 2, "a03 a12 b01"},
		// None, one, several; keys shorter than rows, and as long as they are.
		{3, 2, ""}, {3, 2, "a03"}, {1, 1, "a b c d"}, {1, 1, "z"}, {3, 3, "a03 a12 b01"}, {3, 1, "a12 b01 c00 d12"}, {4, 2, "aa01 ab02 b_03 zz99"}, {4, 3, "aaab aaba abaa baaa"},
		// What stands behind the key plays no part.
		{2, 1, "a9 b1 c5 d0"}, {3, 2, "aaz aba bab"},
		// Byte by byte: cases, and bytes above 127.
		{2, 2, "0a A0 Aa _a aA aa"}, {2, 1, "\x01\xff \x7f\x80 \x80\x7f \xff\x01"}, {2, 2, "a\xff b\x01 \xc3\x28 é \xff\xff"},
	} {
		want := words(c.rows)
		orders(want, func(rows []string) { holdBuild(t, c.width, c.key, rows, right, want...) })
	}
	x, e := table.Build(2, 1)
	if holdError(t, "Build of no rows", x, e, right) {
		holdRows(t, "Build of no rows", x, nil)
	}
}

// P11.1: the first row that has not width bytes is told by its number, ahead of what is there twice.
func TestBuildForm(t *testing.T) {
	for _, c := range []struct {
		width, key int
		rows       []string
		at         int
	}{
		{3, 2, []string{""}, 0}, {3, 2, words("a0"), 0}, {3, 2, words("a"), 0}, {3, 2, words("a034"), 0}, {3, 2, words("a03a12"), 0},
		{3, 2, words("b01 a12 a0"), 2}, {3, 2, words("b01 a1 a03"), 1}, {3, 2, words("b0 a12 a03"), 0}, {3, 2, words("b01 a12 a03 c0000"), 3}, {3, 2, []string{"b01", "", "a03"}, 1}, {3, 2, []string{"b01", "a03", ""}, 2},
		// The first of several, as they stand and not in order, though all bytes together are a whole number of rows.
		{3, 2, words("z01 b0 a1234"), 1}, {3, 2, words("z01 b0123 a1"), 1}, {3, 2, words("c012 b01 a0"), 0}, {3, 2, words("b01 a12 a a0"), 2}, {2, 1, words("a b c d"), 0},
		// Ahead of keys that are there twice.
		{3, 2, words("a01 a02 b"), 2}, {3, 2, words("a01 a01 a02 a03 b000"), 4},
		// Bytes are counted.
		{2, 1, words("é a"), 1}, {2, 2, words("é éa"), 1}, {1, 1, words("é"), 0}, {1, 1, []string{"\xff", "\x00", "\xc3\xa9"}, 2},
		{255, 1, []string{strings.Repeat("a", 255), strings.Repeat("b", 254)}, 1}, {255, 1, []string{strings.Repeat("a", 255), strings.Repeat("b", 256)}, 1},
	} {
		holdBuild(t, c.width, c.key, c.rows, wrong{api.ErrForm, c.at})
	}
}

// P11.1: of rows with one key New tells which is not in order, wherever they stood.
func TestBuildOrder(t *testing.T) {
	for _, c := range []struct {
		width, key int
		rows       string
		at         int
	}{
		{2, 1, "a1 a2", 2}, {2, 1, "a1 a1", 2}, {1, 1, "a a", 1}, {3, 2, "a03 a12 a14 b01", 6}, {3, 2, "a03 a12 b01 b02", 9}, {3, 2, "a03 a04 a12 b01", 3}, {3, 3, "a03 a03 b01", 3}, {3, 1, "a03 a12 b01", 3}, {2, 1, "a1 b1 b1 c1 c2", 4}, {2, 1, "a1 a2 a3", 2}, {2, 1, "\x7f1 \xff1 \xff2", 4},
	} {
		orders(words(c.rows), func(rows []string) { holdBuild(t, c.width, c.key, rows, wrong{api.ErrOrder, c.at}) })
	}
}

// buildAgain is what Build must tell of such rows: each is put in behind those whose keys are not behind its own.
func buildAgain(width, key int, given []string) (rows []string, told wrong) {
	if key < 1 || key > width || width > 255 {
		return nil, wrong{api.ErrArg, 0}
	}
	for i, row := range given {
		if len(row) != width {
			return nil, wrong{api.ErrForm, i}
		}
		at := 0
		for at < len(rows) && rows[at][:key] <= row[:key] {
			at++
		}
		rows = slices.Insert(rows, at, row)
	}
	return newAgain(width, key, strings.Join(rows, ""))
}

// P11.1: all short rows of short texts.
func TestBuildAll(t *testing.T) {
	given := words("a1 a2 b0 \xff1 c abc")
	texts("012345", 4, func(s string) {
		var rows []string
		for _, digit := range s {
			rows = append(rows, given[digit-'0'])
		}
		for width := range 4 {
			for key := range width + 2 {
				sorted, want := buildAgain(width, key, rows)
				holdBuild(t, width, key, rows, want, sorted...)
			}
		}
	})
}
