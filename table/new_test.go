package table_test

import (
	"fmt"
	"strings"
	"testing"

	"isogloss/api"
	"isogloss/fault"
	"isogloss/table"
)

// words are the words of a text; none of the empty one.
func words(s string) []string { return strings.Fields(s) }

// wrong is what a call tells that is refused: a kind, and a place.
type wrong struct {
	kind api.Errno
	at   int
}

// right is what it tells, if nothing is wrong.
var right = wrong{api.OK, -1}

// holdError holds what is told beside a table against what must be wrong, and tells whether nothing must.
func holdError(t *testing.T, call string, x *table.Table, e error, want wrong) bool {
	t.Helper()
	if want == right {
		if e != nil || x == nil {
			t.Errorf("%s: %v, %v, want a table", call, x, e)
		}
		return e == nil && x != nil
	}
	if x != nil {
		t.Errorf("%s: a table beside an error", call)
	}
	if e == nil || fault.Kind(e) != want.kind || fault.Place(e) != want.at || fault.Total(e) != want.at {
		t.Errorf("%s: %v, want %v", call, e, want)
	}
	if whats := fault.Whats(e); len(whats) != 1 || whats[0] != "table" {
		t.Errorf("%s: the fault tells %q", call, whats)
	}
	return false
}

// holdRows holds a table against the rows that it must have.
func holdRows(t *testing.T, call string, x *table.Table, rows []string) {
	t.Helper()
	if x.Len() != len(rows) || x.Bytes() != strings.Join(rows, "") {
		t.Errorf("%s: %d rows, %q, want %q", call, x.Len(), x.Bytes(), rows)
	}
	for i, want := range rows {
		if row, ok := x.Row(i); !ok || row != want {
			t.Errorf("%s: Row(%d): %q, %v, want %q", call, i, row, ok, want)
		}
	}
}

// holdNew holds New of bytes against its rows, or what is wrong.
func holdNew(t *testing.T, width, key int, bytes string, want wrong, rows ...string) {
	t.Helper()
	call := fmt.Sprintf("New(%d, %d, %q)", width, key, bytes)
	for range 2 {
		x, e := table.New(width, key, bytes)
		if holdError(t, call, x, e, want) {
			holdRows(t, call, x, rows)
		}
	}
}

// P11.1: rows in order are a table.
func TestNew(t *testing.T) {
	holdNew(t, 3, 2, "", right)
	holdNew(t, 3, 2, "a03", right, "a03")
	holdNew(t, 3, 2, "a03a12b01", right, "a03", "a12", "b01")
	holdNew(t, 3, 3, "a03a12b01", right, "a03", "a12", "b01")
	holdNew(t, 3, 1, "a03b01", right, "a03", "b01")
	// What stands behind the key is in whatever order, and may be there twice.
	holdNew(t, 3, 1, "azzbaac!!", right, "azz", "baa", "c!!")
	holdNew(t, 2, 1, "a1b1c1", right, "a1", "b1", "c1")
	// Rows of one byte, which is the key.
	holdNew(t, 1, 1, "", right)
	holdNew(t, 1, 1, "a", right, "a")
	holdNew(t, 1, 1, "abc", right, "a", "b", "c")
	// Byte by byte: cases, and bytes above 127.
	holdNew(t, 2, 2, "A_Z_a_", right, "A_", "Z_", "a_")
	holdNew(t, 1, 1, "\x00\x7f\x80\xff", right, "\x00", "\x7f", "\x80", "\xff")
	holdNew(t, 3, 2, "\xc3\x28\x00\xc3\xa9\x00\xff\x00\xff", right, "\xc3\x28\x00", "\xc3\xa9\x00", "\xff\x00\xff")
}

// P11.1: the key is from 1 to width, and width is 255 at most; no other error is told ahead of that.
func TestSizes(t *testing.T) {
	const least, greatest = -1 << 63, 1<<63 - 1
	for _, c := range []struct {
		width, key int
		want       wrong
	}{
		{0, 0, wrong{api.ErrArg, 0}}, {0, 1, wrong{api.ErrArg, 0}}, {0, -1, wrong{api.ErrArg, 0}}, {1, 0, wrong{api.ErrArg, 0}}, {1, 1, right}, {1, 2, wrong{api.ErrArg, 0}},
		{3, -1, wrong{api.ErrArg, 0}}, {3, 0, wrong{api.ErrArg, 0}}, {3, 1, right}, {3, 2, right}, {3, 3, right}, {3, 4, wrong{api.ErrArg, 0}},
		{254, 254, right}, {255, 1, right}, {255, 254, right}, {255, 255, right}, {255, 256, wrong{api.ErrArg, 0}}, {255, 0, wrong{api.ErrArg, 0}},
		{256, 1, wrong{api.ErrArg, 0}}, {256, 255, wrong{api.ErrArg, 0}}, {256, 256, wrong{api.ErrArg, 0}}, {256, 257, wrong{api.ErrArg, 0}}, {257, 1, wrong{api.ErrArg, 0}}, {511, 255, wrong{api.ErrArg, 0}},
		{-1, 1, wrong{api.ErrArg, 0}}, {-1, -1, wrong{api.ErrArg, 0}}, {-3, -5, wrong{api.ErrArg, 0}}, {-1, -2, wrong{api.ErrArg, 0}},
		{least, least, wrong{api.ErrArg, 0}}, {least, 1, wrong{api.ErrArg, 0}}, {greatest, 1, wrong{api.ErrArg, 0}}, {greatest, greatest, wrong{api.ErrArg, 0}}, {1, greatest, wrong{api.ErrArg, 0}}, {greatest, least, wrong{api.ErrArg, 0}}, {3, least, wrong{api.ErrArg, 0}},
	} {
		holdNew(t, c.width, c.key, "", c.want)
		holdBuild(t, c.width, c.key, nil, c.want)
		if c.want != right {
			holdNew(t, c.width, c.key, "b1a2c", c.want)
			holdBuild(t, c.width, c.key, words("b1 b a2 a2"), c.want)
			continue
		}
		low, high := strings.Repeat("a", c.width), strings.Repeat("b", c.width)
		holdNew(t, c.width, c.key, low+high, right, low, high)
		holdBuild(t, c.width, c.key, []string{high, low}, right, low, high)
		holdNew(t, c.width, c.key, high+low, wrong{api.ErrOrder, c.width})
	}
}

// P11.1: bytes are a whole number of rows; that is told ahead of what is not in order.
func TestNewForm(t *testing.T) {
	for _, c := range []struct {
		width, key int
		bytes      string
		want       wrong
	}{
		{3, 2, "a", wrong{api.ErrForm, 1}}, {3, 2, "a0", wrong{api.ErrForm, 2}}, {3, 2, "a03b", wrong{api.ErrForm, 4}}, {3, 2, "a03a1", wrong{api.ErrForm, 5}}, {3, 2, "a03a12b", wrong{api.ErrForm, 7}}, {3, 2, "a03a12b0", wrong{api.ErrForm, 8}}, {2, 1, "a1b", wrong{api.ErrForm, 3}},
		{3, 2, "b01a12a0", wrong{api.ErrForm, 8}}, {3, 2, "b01a12a03a", wrong{api.ErrForm, 10}}, {3, 1, "a03a12b", wrong{api.ErrForm, 7}}, {3, 3, "\xff\xff\xff\xff", wrong{api.ErrForm, 4}},
		{255, 1, "a", wrong{api.ErrForm, 1}}, {255, 1, strings.Repeat("a", 254), wrong{api.ErrForm, 254}}, {255, 1, strings.Repeat("a", 255), right}, {255, 1, strings.Repeat("a", 256), wrong{api.ErrForm, 256}}, {255, 1, strings.Repeat("a", 509), wrong{api.ErrForm, 509}}, {255, 1, strings.Repeat("a", 510), wrong{api.ErrOrder, 255}},
	} {
		if c.want == right {
			holdNew(t, c.width, c.key, c.bytes, c.want, c.bytes)
			continue
		}
		holdNew(t, c.width, c.key, c.bytes, c.want)
	}
}

// P11.1: each key is behind the one ahead, byte by byte; the first row that is not in order is told, by its place.
func TestNewOrder(t *testing.T) {
	for _, c := range []struct {
		width, key int
		bytes      string
		at         int
	}{
		{2, 1, "b1a2", 2}, {2, 1, "a1a2", 2}, {2, 1, "a1a1", 2}, {2, 1, "a2a1", 2}, {1, 1, "ba", 1}, {1, 1, "aa", 1}, {1, 1, "abcb", 3}, {1, 1, "abbc", 2},
		{3, 2, "a03b01a12", 6}, {3, 2, "b01a03a12", 3}, {3, 2, "a12a03b01", 3}, {3, 2, "a03a12a13", 6}, {3, 2, "a03a04b01", 3}, {3, 2, "a03a12b01b02c00a00", 9}, {3, 1, "a03a12b01", 3}, {3, 3, "a03a12a12", 6},
		// The first of several.
		{2, 1, "c1b1a1", 2}, {2, 1, "a1c1b1a1", 4}, {2, 1, "a1b1b1b1", 4},
		// Byte by byte, as bytes that are never below 0.
		{2, 2, "a_A_", 2}, {1, 1, "\x80\x7f", 1}, {1, 1, "a\xff\x00", 2}, {1, 1, "\xff\xff", 1}, {1, 1, "\x00\x00", 1}, {3, 2, "\x00\x01z\x00\x00a", 3}, {2, 2, "é\xc3\xa8", 2},
	} {
		holdNew(t, c.width, c.key, c.bytes, wrong{api.ErrOrder, c.at})
	}
}

// texts does something with all texts of some letters, of so many at most.
func texts(letters string, most int, do func(s string)) {
	do("")
	if most == 0 {
		return
	}
	for i := range len(letters) {
		texts(letters, most-1, func(s string) { do(letters[i:i+1] + s) })
	}
}

// newAgain is what New must tell of such a text.
func newAgain(width, key int, bytes string) (rows []string, told wrong) {
	if key < 1 || key > width || width > 255 {
		return nil, wrong{api.ErrArg, 0}
	}
	for left := bytes; left != ""; left = left[width:] {
		if len(left) < width {
			return nil, wrong{api.ErrForm, len(bytes)}
		}
		rows = append(rows, left[:width])
	}
	for i := 1; i < len(rows); i++ {
		if strings.Compare(rows[i-1][:key], rows[i][:key]) >= 0 {
			return nil, wrong{api.ErrOrder, width * i}
		}
	}
	return rows, right
}

// P11.1: all short texts, by all short widths and keys.
func TestNewAll(t *testing.T) {
	texts("a\xffb\x00", 5, func(s string) {
		for width := -1; width <= 4; width++ {
			for key := -1; key <= width+1; key++ {
				rows, want := newAgain(width, key, s)
				holdNew(t, width, key, s, want, rows...)
			}
		}
	})
}
