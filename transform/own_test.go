package transform_test

import (
	"fmt"
	"slices"
	"testing"

	"isogloss/api"
	"isogloss/tag"
	"isogloss/transform"
)

// roomy is a row with room behind its end, where nothing may be written.
func roomy(row []string) []string {
	return append(slices.Clone(row), "room", "room", "room")[:len(row)]
}

// roomyTransform is the same, each row of it with room.
func roomyTransform(x api.Transform) api.Transform {
	out := api.Transform{Lang: roomy(x.Lang)}
	out.Fields = append(slices.Clone(x.Fields), ext("room", "room"), ext("room", "room"))[:len(x.Fields)]
	for i, f := range out.Fields {
		out.Fields[i].Subs = roomy(f.Subs)
	}
	return out
}

// deep tells all of it, up to the ends of its rows' room.
func deep(x api.Transform) string {
	s := fmt.Sprintf("%q", x.Lang[:cap(x.Lang)])
	for _, f := range x.Fields[:cap(x.Fields)] {
		s += fmt.Sprintf(" %q:%q", f.Key, f.Subs[:cap(f.Subs)])
	}
	return s
}

// spoilRow writes over a row, up to the end of its room.
func spoilRow(row []string) {
	row = row[:cap(row)]
	for i := range row {
		row[i] = "spoiled"
	}
}

// spoil writes over all of it, up to the ends of its rows' room.
func spoil(x api.Transform) {
	spoilRow(x.Lang)
	for _, f := range x.Fields[:cap(x.Fields)] {
		spoilRow(f.Subs)
	}
	all := x.Fields[:cap(x.Fields)]
	for i := range all {
		all[i] = ext("spoiled", "spoiled")
	}
}

// holdApart holds that each row of what is told is apart from all others: what is written into one, or appended to it, is not seen in any other.
func holdApart(t *testing.T, what string, told func() api.Transform) {
	t.Helper()
	want := told()
	for at := -1; at < len(want.Fields); at++ {
		got := told()
		row, kept := &got.Lang, want.Lang
		if at >= 0 {
			row, kept = &got.Fields[at].Subs, want.Fields[at].Subs
		}
		spoilRow(append(*row, "more", "more"))
		spoilRow(*row)
		*row = kept
		hold(t, fmt.Sprintf("%s, its row %d written over", what, at), got, want)
	}
}

// said are some of all kinds, with keys that are there twice.
func said() []api.Transform {
	return []api.Transform{
		{}, {Lang: words("en us")}, {Lang: words("en scouse fonipa 1994")}, {Lang: words("EN X Scouse")}, {Lang: words("zh cmn yue hant tw scouse fonipa"), Fields: fields(ext("m0"), ext("h0", "a"))},
		{Fields: fields(ext("m0", "und"), ext("h0"))}, {Fields: fields(ext("m0"), ext("m0", "a"), ext("h0", "b", "c"))}, {Lang: words("fonipa"), Fields: fields(ext("x0", "a"), ext("m0", "b", "a"), ext("x0", "c"), ext("a0", "d", "e"))},
		{Lang: words("en scouse fonipa"), Fields: fields(ext("a0", "a"), ext("b0", "b"), ext("c0", "c"))}, {Lang: words("EN m0"), Fields: fields(ext("M0", "X"), ext("abc", "y"))},
	}
}

// R3: what Read and Write tell is their caller's, and what they are handed stays as it was.
func TestOwnReading(t *testing.T) {
	for _, x := range append(said(), transform.Read(words("en scouse M0 h0 true b x0 D E"))) {
		subs := roomy(transform.Write(x))
		before := fmt.Sprintf("%q", subs[:cap(subs)])
		read, want := transform.Read(subs), transform.Read(slices.Clone(subs))
		holdApart(t, "Read("+before+")", func() api.Transform { return transform.Read(subs) })
		spoil(transform.Read(subs))
		if after := fmt.Sprintf("%q", subs[:cap(subs)]); after != before {
			t.Errorf("%s was changed to %s", before, after)
		}
		spoilRow(subs)
		hold(t, "Read("+before+") after its row was written over", read, want)

		from := roomyTransform(x)
		before = deep(from)
		spoilRow(transform.Write(from))
		if after := deep(from); after != before {
			t.Errorf("%s was changed to %s", before, after)
		}
		written := transform.Write(from)
		spoil(from)
		if !slices.Equal(written, transform.Write(x)) {
			t.Errorf("Write(%s) after it was written over: %q", before, written)
		}
	}
}

// R3: what Order tells is its caller's, and what it is handed stays as it was.
func TestOwnOrder(t *testing.T) {
	for _, x := range said() {
		from := roomyTransform(x)
		before := deep(from)
		got, want := transform.Order(from), transform.Order(x)
		holdApart(t, "Order("+before+")", func() api.Transform { return transform.Order(from) })
		spoil(transform.Order(from))
		if after := deep(from); after != before {
			t.Errorf("%s was changed to %s", before, after)
		}
		spoil(from)
		hold(t, "Order("+before+") after it was written over", got, want)
	}
}

// R3: what Language tells is its caller's, and what it is handed stays as it was.
func TestOwnLanguage(t *testing.T) {
	for _, x := range said() {
		from := roomyTransform(x)
		before := deep(from)
		got, _ := transform.Language(from)
		want, _ := transform.Language(x)
		spoiled, _ := transform.Language(from)
		spoilRow(spoiled.Extlang)
		if !slices.Equal(spoiled.Variants, want.Variants) {
			t.Errorf("Language(%s): Variants %q after Extlang was written over", before, spoiled.Variants)
		}
		spoilRow(spoiled.Variants)
		if after := deep(from); after != before {
			t.Errorf("%s was changed to %s", before, after)
		}
		if again, _ := transform.Language(from); !tag.Same(again, want) {
			t.Errorf("Language(%s) after one was written over: %q, want %q", before, again, want)
		}
		spoil(from)
		if !tag.Same(got, want) {
			t.Errorf("Language(%s) after it was written over: %q, want %q", before, got, want)
		}
	}
}
