package keyword_test

import (
	"fmt"
	"slices"
	"testing"

	"isogloss/api"
	"isogloss/keyword"
)

// roomy is a row with room behind its end, where nothing may be written.
func roomy(row []string) []string {
	return append(slices.Clone(row), "room", "room", "room")[:len(row)]
}

// roomyWords is the same, each row of it with room.
func roomyWords(k api.Keywords) api.Keywords {
	out := api.Keywords{Attrs: roomy(k.Attrs)}
	out.Keys = append(slices.Clone(k.Keys), ext("room", "room"), ext("room", "room"))[:len(k.Keys)]
	for i, e := range out.Keys {
		out.Keys[i].Subs = roomy(e.Subs)
	}
	return out
}

// deep tells all of it, up to the ends of its rows' room.
func deep(k api.Keywords) string {
	s := fmt.Sprintf("%q", k.Attrs[:cap(k.Attrs)])
	for _, e := range k.Keys[:cap(k.Keys)] {
		s += fmt.Sprintf(" %q:%q", e.Key, e.Subs[:cap(e.Subs)])
	}
	return s
}

// spoilRow writes over a row, up to the end of its room.
func spoilRow(row []string) {
	row = row[:cap(row)]
	for i := range row {
		row[i] = "spoiled"
	}
}

// spoil writes over all of it, up to the ends of its rows' room.
func spoil(k api.Keywords) {
	spoilRow(k.Attrs)
	for _, e := range k.Keys[:cap(k.Keys)] {
		spoilRow(e.Subs)
	}
	all := k.Keys[:cap(k.Keys)]
	for i := range all {
		all[i] = ext("spoiled", "spoiled")
	}
}

// holdApart holds that each row of what is told is apart from all others: what is written into one, or appended to it, is not seen in any other.
func holdApart(t *testing.T, what string, told func() api.Keywords) {
	t.Helper()
	want := told()
	for at := -1; at < len(want.Keys); at++ {
		got, row := told(), want.Attrs
		if at < 0 {
			spoilRow(append(got.Attrs, "more", "more"))
			spoilRow(got.Attrs)
			got.Attrs = row
		} else {
			row = want.Keys[at].Subs
			spoilRow(append(got.Keys[at].Subs, "more", "more"))
			spoilRow(got.Keys[at].Subs)
			got.Keys[at].Subs = row
		}
		hold(t, fmt.Sprintf("%s, its row %d written over", what, at), got, want)
	}
}

// said are some of all kinds, with keys that are there twice.
func said() []api.Keywords {
	return []api.Keywords{
		{}, {Attrs: words("foo bar")}, {Keys: keys(ext("co", "true"), ext("ca"))}, {Keys: keys(ext("co"), ext("co", "a"), ext("ca", "b", "c"))},
		{Attrs: words("bar foo bar"), Keys: keys(ext("nu", "true"), ext("co", "b", "a"), ext("nu", "x"), ext("ca", "true", "y"), ext("abc", "z"))},
		{Attrs: words("a b"), Keys: keys(ext("ca", "a"), ext("co", "b"), ext("nu", "c"))},
	}
}

// R3: what Read and Write tell is their caller's, and what they are handed stays as it was.
func TestOwnReading(t *testing.T) {
	for _, k := range append(said(), keyword.Read(words("foo bar co ca true b c nu D E"))) {
		subs := roomy(keyword.Write(k))
		before := fmt.Sprintf("%q", subs[:cap(subs)])
		read, want := keyword.Read(subs), keyword.Read(slices.Clone(subs))
		holdApart(t, "Read("+before+")", func() api.Keywords { return keyword.Read(subs) })
		spoil(keyword.Read(subs))
		if after := fmt.Sprintf("%q", subs[:cap(subs)]); after != before {
			t.Errorf("%s was changed to %s", before, after)
		}
		spoilRow(subs)
		hold(t, "Read("+before+") after its row was written over", read, want)

		from := roomyWords(k)
		before = deep(from)
		spoilRow(keyword.Write(from))
		if after := deep(from); after != before {
			t.Errorf("%s was changed to %s", before, after)
		}
		written := keyword.Write(from)
		spoil(from)
		if !slices.Equal(written, keyword.Write(k)) {
			t.Errorf("Write(%s) after it was written over: %q", before, written)
		}
	}
}

// R3: what Order, Get and Set tell is their caller's, and what they are handed stays as it was.
func TestOwnKeywords(t *testing.T) {
	for _, k := range said() {
		for _, key := range []string{"co", "CA", "nu", "zz", "abc", "é", ""} {
			calls := map[string]func(api.Keywords, []string) api.Keywords{
				"Order": func(k api.Keywords, _ []string) api.Keywords { return keyword.Order(k) },
				"Set":   func(k api.Keywords, value []string) api.Keywords { return keyword.Set(k, key, value...) },
				"Get": func(k api.Keywords, _ []string) api.Keywords {
					value, _ := keyword.Get(k, key)
					return api.Keywords{Attrs: value}
				},
			}
			for name, call := range calls {
				what := fmt.Sprintf("%s(%s, %q)", name, shown(k), key)
				from, value := roomyWords(k), roomy([]string{"V", "true"})
				before := deep(from) + fmt.Sprintf(" %q", value[:cap(value)])
				got, want := call(from, value), call(k, []string{"V", "true"})
				holdApart(t, what, func() api.Keywords { return call(from, value) })
				spoil(call(from, value))
				if after := deep(from) + fmt.Sprintf(" %q", value[:cap(value)]); after != before {
					t.Errorf("%s: %s was changed to %s", what, before, after)
				}
				spoil(from)
				spoilRow(value)
				hold(t, what+" after all was written over", got, want)
			}
		}
	}
}
