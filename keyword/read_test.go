package keyword_test

import (
	"fmt"
	"slices"
	"strings"
	"testing"

	"isogloss/api"
	"isogloss/keyword"
)

// ext is a key with what stands behind it.
func ext(key string, subs ...string) api.Ext { return api.Ext{Key: key, Subs: subs} }

// keys are several of them.
func keys(all ...api.Ext) []api.Ext { return all }

// shown tells all of it; an empty row is shown as none is.
func shown(k api.Keywords) string {
	var s strings.Builder
	fmt.Fprintf(&s, "%q", k.Attrs)
	for _, e := range k.Keys {
		fmt.Fprintf(&s, " %q:%q", e.Key, e.Subs)
	}
	if s.Len() > 2000 {
		return fmt.Sprintf("%.300s.. of %d bytes", s.String(), s.Len())
	}
	return s.String()
}

// hold holds what a call tells against what it must.
func hold(t *testing.T, what string, got, want api.Keywords) {
	t.Helper()
	same := slices.Equal(got.Attrs, want.Attrs) && slices.EqualFunc(got.Keys, want.Keys, func(a, b api.Ext) bool { return a.Key == b.Key && slices.Equal(a.Subs, b.Subs) })
	if !same {
		t.Errorf("%.300s: %s, want %s", what, shown(got), shown(want))
	}
}

// words are a text's subtags, with blanks between.
func words(s string) []string { return strings.Fields(s) }

// small is a row in small letters, of letters of ASCII alone.
func small(row []string) []string {
	var out []string
	for _, s := range row {
		b := []byte(s)
		for i, c := range b {
			if c >= 'A' && c <= 'Z' {
				b[i] = c + 'a' - 'A'
			}
		}
		out = append(out, string(b))
	}
	return out
}

// readings are subtags, and what they say.
func readings() map[string]api.Keywords {
	return map[string]api.Keywords{
		// The chapter's example.
		"foo co true bar ca buddhist co phonebk": {Attrs: []string{"foo"}, Keys: keys(ext("co", "true", "bar"), ext("ca", "buddhist"), ext("co", "phonebk"))},
		// Nothing, attributes alone, keys alone, both.
		"": {}, "foo": {Attrs: words("foo")}, "foo bar foo": {Attrs: words("foo bar foo")}, "a abc abcdefgh": {Attrs: words("a abc abcdefgh")},
		"co": {Keys: keys(ext("co"))}, "co true": {Keys: keys(ext("co", "true"))}, "co a abc abcdefgh": {Keys: keys(ext("co", "a", "abc", "abcdefgh"))},
		"foo co": {Attrs: words("foo"), Keys: keys(ext("co"))}, "foo bar co phonebk": {Attrs: words("foo bar"), Keys: keys(ext("co", "phonebk"))},
		// Keys one behind the other, and there twice.
		"co ca": {Keys: keys(ext("co"), ext("ca"))}, "co ca nu": {Keys: keys(ext("co"), ext("ca"), ext("nu"))}, "co co": {Keys: keys(ext("co"), ext("co"))}, "co ca true": {Keys: keys(ext("co"), ext("ca", "true"))}, "foo co ca": {Attrs: words("foo"), Keys: keys(ext("co"), ext("ca"))},
		"co phonebk co standard": {Keys: keys(ext("co", "phonebk"), ext("co", "standard"))}, "ca islamic civil nu thai": {Keys: keys(ext("ca", "islamic", "civil"), ext("nu", "thai"))}, "co true true": {Keys: keys(ext("co", "true", "true"))},
		// Great letters of attributes, keys and values; digits.
		"FOO Co TRUE cA PHONEbk": {Attrs: words("foo"), Keys: keys(ext("co", "true"), ext("ca", "phonebk"))}, "AZ Za": {Keys: keys(ext("az"), ext("za"))}, "12 1A A1 9": {Keys: keys(ext("12"), ext("1a"), ext("a1", "9"))},
		// Two bytes are a key, whatever they are; others are none.
		"é foo": {Keys: keys(ext("é", "foo"))}, "foo É ab": {Attrs: words("foo"), Keys: keys(ext("É"), ext("ab"))}, "\xff\xfe \xff \xff\xfe\xfd": {Keys: keys(ext("\xff\xfe", "\xff", "\xff\xfe\xfd"))}, "-- a-b -": {Keys: keys(ext("--", "a-b", "-"))},
		"日 Éa aÉ co": {Attrs: words("日 Éa aÉ"), Keys: keys(ext("co"))}, "a\x00 \x00\x00 \x00": {Keys: keys(ext("a\x00"), ext("\x00\x00", "\x00"))}, "_A @[ `{": {Keys: keys(ext("_a"), ext("@["), ext("`{"))},
		strings.Repeat("A", 100): {Attrs: []string{strings.Repeat("a", 100)}}, "co " + strings.Repeat("Bé", 100): {Keys: keys(ext("co", strings.Repeat("bé", 100)))},
	}
}

// P9.1: what subtags say.
func TestRead(t *testing.T) {
	for s, want := range readings() {
		for range 2 {
			hold(t, fmt.Sprintf("Read(%q)", s), keyword.Read(words(s)), want)
		}
	}
}

// P9.1, R1: no subtags say nothing, and empty ones are no keys.
func TestReadEmpty(t *testing.T) {
	hold(t, "Read(nil)", keyword.Read(nil), api.Keywords{})
	hold(t, "Read of none", keyword.Read([]string{}), api.Keywords{})
	hold(t, "Read of an empty one", keyword.Read([]string{""}), api.Keywords{Attrs: []string{""}})
	hold(t, "Read of empty ones", keyword.Read([]string{"", "co", "", "", "ca", ""}), api.Keywords{Attrs: []string{""}, Keys: keys(ext("co", "", ""), ext("ca", ""))})
}

// P9.1: each pair of bytes is a key, and no other size of text is one; letters of ASCII alone turn small.
func TestReadKeys(t *testing.T) {
	for a := range 256 {
		for b := range 256 {
			s := string([]byte{byte(a), byte(b)})
			k := keyword.Read([]string{"foo", s, "bar"})
			if len(k.Attrs) != 1 || len(k.Keys) != 1 || k.Keys[0].Key != small([]string{s})[0] || len(k.Keys[0].Subs) != 1 {
				t.Fatalf("Read(foo %q bar): %s", s, shown(k))
			}
		}
	}
	for size := range 20 {
		s := strings.Repeat("b", size)
		k := keyword.Read([]string{s})
		if want := size == 2; len(k.Keys) == 1 != want || len(k.Attrs) == 0 != want {
			t.Errorf("Read(%q): %s", s, shown(k))
		}
	}
}

// writings are what may be said, also what is never read, and its subtags.
func writings() []struct {
	k    api.Keywords
	want []string
} {
	return []struct {
		k    api.Keywords
		want []string
	}{
		{api.Keywords{}, nil}, {api.Keywords{Attrs: []string{}, Keys: keys()}, nil}, {api.Keywords{Attrs: []string{"foo", "bar"}}, words("foo bar")},
		{api.Keywords{Keys: keys(ext("co"))}, words("co")}, {api.Keywords{Keys: keys(ext("co", "a", "b"), ext("ca"), ext("co", "c"))}, words("co a b ca co c")}, {api.Keywords{Attrs: words("foo"), Keys: keys(ext("co", "true"))}, words("foo co true")},
		// As they stand: great letters, no order, twice, sizes that no reading tells.
		{api.Keywords{Attrs: words("FOO a FOO"), Keys: keys(ext("CO", "TRUE"), ext("CA", "É"))}, words("FOO a FOO CO TRUE CA É")},
		{api.Keywords{Attrs: words("co ca"), Keys: keys(ext("abc", "co"), ext("a", "nu"))}, words("co ca abc co a nu")},
		{api.Keywords{Attrs: []string{""}, Keys: keys(ext(""), ext("", ""))}, []string{"", "", "", ""}}, {api.Keywords{Keys: keys(ext("a-b", "c-d", "\xff"))}, []string{"a-b", "c-d", "\xff"}},
	}
}

// P9.1: the subtags that say it.
func TestWrite(t *testing.T) {
	for _, c := range writings() {
		before := shown(c.k)
		for range 2 {
			if got := keyword.Write(c.k); !slices.Equal(got, c.want) {
				t.Errorf("Write(%s): %q, want %q", before, got, c.want)
			}
		}
		if after := shown(c.k); after != before {
			t.Errorf("Write changed %s to %s", before, after)
		}
	}
}

// rows goes over all rows of these texts, of up to so many.
func rows(texts []string, most int, each func([]string)) {
	var row []string
	var longer func()
	longer = func() {
		each(row)
		if len(row) == most {
			return
		}
		for _, s := range texts {
			row = append(row, s)
			longer()
			row = row[:len(row)-1]
		}
	}
	longer()
}

// readAgain is what subtags say, by their places: a subtag is behind the last key ahead of it.
func readAgain(subs []string) api.Keywords {
	var k api.Keywords
	for _, s := range small(subs) {
		last := len(k.Keys) - 1
		switch {
		case len(s) == 2:
			k.Keys = append(k.Keys, api.Ext{Key: s})
		case last < 0:
			k.Attrs = append(k.Attrs, s)
		default:
			k.Keys[last].Subs = append(k.Keys[last].Subs, s)
		}
	}
	return k
}

// P9.1, P9.4: what is read of all short rows; it is written to the same, in small letters, and read of that again.
func TestReadAll(t *testing.T) {
	rows([]string{"", "foo", "co", "CO", "ca", "true", "Bar", "é"}, 5, func(row []string) {
		before := slices.Clone(row)
		k := keyword.Read(row)
		hold(t, fmt.Sprintf("Read(%q)", row), k, readAgain(row))
		subs := keyword.Write(k)
		if !slices.Equal(subs, small(row)) {
			t.Errorf("%q is written to %q", row, subs)
		}
		hold(t, fmt.Sprintf("Read(%q) again", row), keyword.Read(subs), k)
		if !slices.Equal(row, before) {
			t.Errorf("Read changed %q to %q", before, row)
		}
	})
}

// P1, R5: rows of any size are read and written.
func TestReadMany(t *testing.T) {
	const count = 1 << 17
	for _, row := range [][]string{slices.Repeat([]string{"co"}, count), slices.Repeat([]string{"foo"}, count), slices.Repeat([]string{"co", "Foo", "BAR"}, count), append([]string{"co"}, slices.Repeat([]string{""}, count)...), {strings.Repeat("Ab", count)}} {
		k := keyword.Read(row)
		hold(t, "Read of many", k, readAgain(row))
		if !slices.Equal(keyword.Write(k), small(row)) {
			t.Errorf("Write of many: %d, want %d", len(keyword.Write(k)), len(row))
		}
	}
}
