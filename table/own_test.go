package table_test

import (
	"fmt"
	"slices"
	"strings"
	"testing"

	"isogloss/api"
	"isogloss/table"
)

// holdNothing holds that a table has no rows.
func holdNothing(t *testing.T, x *table.Table) {
	t.Helper()
	if x.Len() != 0 || x.Bytes() != "" {
		t.Errorf("nothing: %d, %q", x.Len(), x.Bytes())
	}
	holdNoRow(t, x, 0, 1)
	for _, key := range []string{"", "a", "\x00", "\xff", strings.Repeat("a", 300)} {
		if row, ok := x.Find(key); row != "" || ok {
			t.Errorf("Find(%q) of nothing: %q, %v", key, row, ok)
		}
		walk := x.Prefix(key)
		if walk == nil {
			t.Fatalf("Prefix(%q) of nothing is nil", key)
		}
		for i, row := range walk {
			t.Errorf("Prefix(%q) of nothing: %d %q", key, i, row)
		}
	}
}

// P11.2, R1: a nil table tells nothing, and so does one that has no rows, or was never made.
func TestNothing(t *testing.T) {
	holdNothing(t, nil)
	holdNothing(t, new(table.Table))
	for _, c := range [][2]int{{1, 1}, {3, 2}, {255, 1}, {255, 255}} {
		holdNothing(t, build(t, c[0], c[1]))
		x, _ := table.New(c[0], c[1], "")
		holdNothing(t, x)
	}
}

// R3: the rows that are handed in stay as they are, with the room behind them; the table has its own.
func TestOwn(t *testing.T) {
	given := append(words("b01 a12 a03"), "room", "room")[:3]
	x := build(t, 3, 2, given...)
	if all := given[:5]; !slices.Equal(all, words("b01 a12 a03 room room")) {
		t.Errorf("Build changed its rows to %q", all)
	}
	for i := range given[:5] {
		given[:5][i] = "z99"
	}
	holdRows(t, "a table of rows that were written over", x, words("a03 a12 b01"))
	for _, c := range []struct {
		rows string
		want wrong
	}{{"b01 a12 a0", wrong{api.ErrForm, 2}}, {"b01 a12 a14 a03", wrong{api.ErrOrder, 6}}, {"b01 a12", wrong{api.ErrArg, 0}}} {
		key := 2
		if c.want.kind == api.ErrArg {
			key = 4
		}
		given := words(c.rows)
		y, e := table.Build(3, key, given...)
		holdError(t, "Build of "+c.rows, y, e, c.want)
		if !slices.Equal(given, words(c.rows)) {
			t.Errorf("Build changed the rows that it refused to %q", given)
		}
	}
}

// R3, R4: tables are apart from each other, and what one tells stays the same, whatever is asked of it.
func TestApart(t *testing.T) {
	x, y := build(t, 3, 2, "b01", "a12"), build(t, 2, 1, "z9", "a1", "m5")
	for range 2 {
		for _, key := range []string{"", "a", "a1", "b", "z"} {
			holdAsked(t, x, 2, words("a12 b01"), key)
			holdAsked(t, y, 1, words("a1 m5 z9"), key)
		}
		holdRows(t, "one", x, words("a12 b01"))
		holdRows(t, "another one", y, words("a1 m5 z9"))
	}
}

// manyRows are so many rows of 8 digits that rise, with 2 bytes behind them.
func manyRows(count int) []string {
	var rows []string
	for i := range count {
		rows = append(rows, fmt.Sprintf("%08d%02d", i*2, i*31%100))
	}
	return rows
}

// P1, R5: a great many rows are built, and looked through, soon.
func TestMany(t *testing.T) {
	const count = 1 << 16
	rows := manyRows(count)
	for _, step := range []int{1, 7919, count - 1} {
		given := make([]string, count)
		for i := range given {
			given[i] = rows[i*step%count]
		}
		x := build(t, 10, 8, given...)
		if x.Len() != count || x.Bytes() != strings.Join(rows, "") {
			t.Fatalf("Build of many, by %d: %d rows", step, x.Len())
		}
		holdMany(t, x, rows)
		if y, e := table.New(10, 8, x.Bytes()); e != nil || y.Bytes() != x.Bytes() {
			t.Errorf("New of many: %v", e)
		}
	}
	last := (count - 1) * 10
	bytes := strings.Join(rows, "")
	holdLast(t, bytes[:last]+rows[count-2], wrong{api.ErrOrder, last})
	holdLast(t, bytes+"0", wrong{api.ErrForm, len(bytes) + 1})
}

// holdMany asks for each row of many, by its number, by its key, and by the last beginning that is its own; no row is between.
func holdMany(t *testing.T, x *table.Table, rows []string) {
	t.Helper()
	for i, want := range rows {
		row, ok := x.Row(i)
		found, some := x.Find(want[:8])
		if !ok || row != want || !some || found != want {
			t.Fatalf("%d of many: %q, %v, %q, %v, want %q", i, row, ok, found, some, want)
		}
		if between, some := x.Find(fmt.Sprintf("%08d", 2*i+1)); some || between != "" {
			t.Fatalf("Find of many tells %q", between)
		}
		for j, row := range x.Prefix(want[:8]) {
			if i != j || row != want {
				t.Fatalf("Prefix of many: %d %q, want %d %q", j, row, i, want)
			}
		}
	}
	at := 0
	for i, row := range x.Prefix("") {
		if i != at || row != rows[i] {
			t.Fatalf("Prefix of all: %d %q", i, row)
		}
		at++
	}
	if at != len(rows) {
		t.Errorf("Prefix of all: %d of %d", at, len(rows))
	}
}

// holdLast holds what is wrong with a great many rows.
func holdLast(t *testing.T, bytes string, want wrong) {
	t.Helper()
	x, e := table.New(10, 8, bytes)
	holdError(t, "New of many", x, e, want)
}

// P1, R5: a long row that is not one, and a long key, are answered, too.
func TestLong(t *testing.T) {
	long := strings.Repeat("a", 1<<22)
	x, e := table.Build(3, 2, "b01", long)
	holdError(t, "Build of a long row", x, e, wrong{api.ErrForm, 1})
	x, e = table.New(255, 255, long)
	holdError(t, "New of a long text", x, e, wrong{api.ErrForm, len(long)})
	y := build(t, 3, 2, "aaa", "b01")
	if row, ok := y.Find(long); row != "" || ok {
		t.Errorf("Find of a long key: %q, %v", row, ok)
	}
	for i, row := range y.Prefix(long) {
		t.Errorf("Prefix of a long key: %d %q", i, row)
	}
}
