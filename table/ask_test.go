package table_test

import (
	"fmt"
	"strings"
	"testing"

	"isogloss/table"
)

// build is a table of such rows.
func build(t *testing.T, width, key int, rows ...string) *table.Table {
	t.Helper()
	x, e := table.Build(width, key, rows...)
	if e != nil || x == nil {
		t.Fatalf("Build(%d, %d, %q): %v, %v", width, key, rows, x, e)
	}
	return x
}

// prefixed is what Prefix tells of a text, as a text; it is gone over twice.
func prefixed(t *testing.T, x *table.Table, key string) string {
	t.Helper()
	var told [2]string
	walk := x.Prefix(key)
	for time := range told {
		for i, row := range walk {
			told[time] += fmt.Sprintf("%d %q;", i, row)
		}
	}
	if told[0] != told[1] {
		t.Errorf("Prefix(%q): %s, then %s", key, told[0], told[1])
	}
	return told[0]
}

// holdAsked holds what a table tells of a key, found and begun with, against what its rows must tell.
func holdAsked(t *testing.T, x *table.Table, keySize int, rows []string, key string) {
	t.Helper()
	found, some, begun := "", false, ""
	for i, row := range rows {
		if row[:keySize] == key {
			found, some = row, true
		}
		if strings.Index(row[:keySize], key) == 0 {
			begun += fmt.Sprintf("%d %q;", i, row)
		}
	}
	for range 2 {
		if row, ok := x.Find(key); row != found || ok != some {
			t.Errorf("Find(%q) of %q: %q, %v, want %q, %v", key, rows, row, ok, found, some)
		}
	}
	if told := prefixed(t, x, key); told != begun {
		t.Errorf("Prefix(%q) of %q: %s, want %s", key, rows, told, begun)
	}
}

// holdNoRow holds that there are no rows of these numbers.
func holdNoRow(t *testing.T, x *table.Table, numbers ...int) {
	t.Helper()
	for _, i := range append(numbers, -1, -2, -1<<63, 1<<63-1, 1<<62, 1<<32, -1<<32) {
		if row, ok := x.Row(i); row != "" || ok {
			t.Errorf("Row(%d) of %d: %q, %v", i, x.Len(), row, ok)
		}
	}
}

// P11.2: the chapter's example.
func TestExample(t *testing.T) {
	x := build(t, 3, 2, "b01", "a12", "a03")
	holdRows(t, "the example", x, words("a03 a12 b01"))
	if row, ok := x.Find("a1"); row != "a12" || !ok {
		t.Errorf("Find: %q, %v", row, ok)
	}
	if told := prefixed(t, x, "a"); told != `0 "a03";1 "a12";` {
		t.Errorf("Prefix: %s", told)
	}
}

// P11.2: rows are asked for by their numbers; there are none at -1, and behind the last.
func TestRow(t *testing.T) {
	for _, c := range []struct {
		width, key int
		rows       string
	}{{3, 2, ""}, {3, 2, "a03"}, {3, 2, "a03 a12 b01"}, {1, 1, "a b c d e"}, {2, 1, "a\xff \xff\xff"}} {
		rows := words(c.rows)
		x := build(t, c.width, c.key, rows...)
		holdRows(t, c.rows, x, rows)
		holdNoRow(t, x, len(rows), len(rows)+1, c.width*len(rows))
	}
}

// P11.2: keys that are found first, last, and between, keys of which there is none, and beginnings of keys.
func TestFind(t *testing.T) {
	for _, c := range []struct {
		width, key int
		rows       string
	}{
		{4, 2, ""}, {4, 2, "mm00"}, {4, 2, "aa01 ab02 b_03 zz99"}, {4, 2, "aa01 ab02 b_03 bb04 zz99"}, {2, 2, "aa ab b_ zz"}, {3, 1, "aaa baa mbb zaa"}, {1, 1, "a b m z"}, {3, 3, "aa0 aaa aab abb b_a mmm zzz"}, {2, 1, "\x01a \x7fb \x80c \xffd"}, {3, 2, "\xc3\x28a é1 \xff\x01b \xff\xffc"},
	} {
		rows := words(c.rows)
		x := build(t, c.width, c.key, rows...)
		// The key itself, all of the row, and what is ahead of, and behind, each.
		for _, row := range rows {
			for size := range len(row) + 1 {
				for _, key := range []string{row[:size], row[:size] + "\x00", row[:size] + "a", row[:size] + "\xff", row[size:], strings.ToUpper(row[:size])} {
					holdAsked(t, x, c.key, rows, key)
				}
			}
		}
		for _, key := range []string{"", "a", "a_", "aA", "AA", "aa", "aaa", "aa01", "aa01a", "ac", "b", "b_", "m", "mm", "mm00", "z", "zz", "zz99", "zzz", "\x00", "\x00\x00", "\x7f", "\x80", "\xc3", "\xff", "\xff\xff", "\xff\xff\xff", "é", strings.Repeat("a", 300), strings.Repeat("\xff", 300)} {
			holdAsked(t, x, c.key, rows, key)
		}
	}
}

// P11.2: what stands behind a key is no part of it.
func TestBehindKey(t *testing.T) {
	x := build(t, 3, 1, "a12", "b01")
	for _, key := range []string{"a1", "a12", "1", "12", "b0", ""} {
		if row, ok := x.Find(key); row != "" || ok {
			t.Errorf("Find(%q): %q, %v", key, row, ok)
		}
	}
	for key, want := range map[string]string{"a": `0 "a12";`, "a1": "", "a12": "", "b": `1 "b01";`, "1": "", "": `0 "a12";1 "b01";`} {
		if told := prefixed(t, x, key); told != want {
			t.Errorf("Prefix(%q): %s, want %s", key, told, want)
		}
	}
}

// P11.2: all short keys, asked of all short tables.
func TestAskAll(t *testing.T) {
	const letters = "ab\xff"
	texts(letters, 6, func(s string) {
		for width := 1; width <= 3; width++ {
			for key := 1; key <= width; key++ {
				rows, told := newAgain(width, key, s)
				if told != right {
					continue
				}
				x, _ := table.New(width, key, s)
				texts(letters, width+1, func(asked string) { holdAsked(t, x, key, rows, asked) })
				holdAsked(t, x, key, rows, "A")
				holdNoRow(t, x, len(rows), len(s)+1)
			}
		}
	})
}

// R1, P11.2: what is told may be left off anywhere, and gone over again, also while it is gone over.
func TestLeftOff(t *testing.T) {
	x := build(t, 3, 2, "a03", "a12", "a25", "b01", "c00")
	for key, count := range map[string]int{"": 5, "a": 3, "a1": 1, "b": 1, "d": 0, "a03": 0} {
		walk := x.Prefix(key)
		for most := range count + 2 {
			told := 0
			for range walk {
				if told == most {
					break
				}
				told++
			}
			if told != min(most, count) {
				t.Errorf("Prefix(%q) left off at %d: %d", key, most, told)
			}
		}
		pairs := 0
		for i := range walk {
			for j, row := range walk {
				if same, _ := x.Row(j); same != row {
					t.Errorf("Prefix(%q) within itself: %d %q", key, j, row)
				}
				if i == j {
					pairs++
				}
			}
		}
		if pairs != count {
			t.Errorf("Prefix(%q) within itself: %d, want %d", key, pairs, count)
		}
	}
}

// leaveOff calls a walk, and says that it is left off; it must not tell more.
func leaveOff(t *testing.T, x *table.Table, key string) {
	t.Helper()
	told := 0
	x.Prefix(key)(func(int, string) bool {
		told++
		return false
	})
	if told > 1 {
		t.Errorf("Prefix(%q) went on: %d", key, told)
	}
}

// R1, P11.2: nothing more is told, once it is left off.
func TestLeftOffFirst(t *testing.T) {
	x := build(t, 1, 1, "a", "b", "c")
	for _, key := range []string{"", "a", "b", "c", "d"} {
		leaveOff(t, x, key)
	}
	leaveOff(t, nil, "")
}
