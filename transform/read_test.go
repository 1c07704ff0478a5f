package transform_test

import (
	"fmt"
	"slices"
	"strings"
	"testing"

	"isogloss/api"
	"isogloss/transform"
)

// ext is a field's key with what stands behind it.
func ext(key string, subs ...string) api.Ext { return api.Ext{Key: key, Subs: subs} }

// fields are several of them.
func fields(all ...api.Ext) []api.Ext { return all }

// words are a text's subtags, with blanks between.
func words(s string) []string { return strings.Fields(s) }

// shown tells all of it; an empty row is shown as none is.
func shown(x api.Transform) string {
	var s strings.Builder
	fmt.Fprintf(&s, "%q", x.Lang)
	for _, f := range x.Fields {
		fmt.Fprintf(&s, " %q:%q", f.Key, f.Subs)
	}
	if s.Len() > 2000 {
		return fmt.Sprintf("%.300s.. of %d bytes", s.String(), s.Len())
	}
	return s.String()
}

// hold holds what a call tells against what it must.
func hold(t *testing.T, what string, got, want api.Transform) {
	t.Helper()
	same := slices.Equal(got.Lang, want.Lang) && slices.EqualFunc(got.Fields, want.Fields, func(a, b api.Ext) bool { return a.Key == b.Key && slices.Equal(a.Subs, b.Subs) })
	if !same {
		t.Errorf("%.300s: %s, want %s", what, shown(got), shown(want))
	}
}

// small is a row in small letters, of letters of ASCII alone.
func small(row []string) []string {
	var out []string
	for _, s := range row {
		b := []byte(s)
		for i, c := range b {
			if c >= 'A' && c <= 'Z' {
				b[i] = c + 'a' - 'A'
			}
		}
		out = append(out, string(b))
	}
	return out
}

// rows goes over all rows of these texts, of up to so many.
func rows(texts []string, most int, each func([]string)) {
	var row []string
	var longer func()
	longer = func() {
		each(row)
		if len(row) == most {
			return
		}
		for _, s := range texts {
			row = append(row, s)
			longer()
			row = row[:len(row)-1]
		}
	}
	longer()
}

// P10.1: a letter, and a digit, whatever the case, are a field's key.
func TestKey(t *testing.T) {
	for _, s := range []string{"m0", "M0", "h0", "x9", "X9", "a0", "A0", "z9", "Z9", "k5"} {
		if !transform.Key(s) {
			t.Errorf("Key(%q): false", s)
		}
	}
	for _, s := range []string{
		"", "m", "0", "m00", "mm0", "m0m", "m0-", "-m0", " m0", "m0 ", "m0m0", "mm", "MM", "00", "0m", "9Z", "x", "t", "en", "u-",
		"@0", "[0", "`0", "{0", "m/", "m:", "m ", "m\x00", "é", "é0", "\xc30", "\xe90", "m\xb2", "\xff\xff", "m\xff", "\xff0", "日", "m٠", "ｍ0", strings.Repeat("m0", 1000),
	} {
		if transform.Key(s) {
			t.Errorf("Key(%q): true", s)
		}
	}
}

// P10.1: all texts of up to 2 bytes, and what is read of each of them.
func TestKeyAll(t *testing.T) {
	texts := []string{""}
	for a := range 256 {
		texts = append(texts, string([]byte{byte(a)}))
		for b := range 256 {
			texts = append(texts, string([]byte{byte(a), byte(b)}))
		}
	}
	count := 0
	for _, s := range texts {
		want := len(s) == 2 && strings.Contains("abcdefghijklmnopqrstuvwxyz", small([]string{s[:1]})[0]) && strings.Contains("0123456789", s[1:])
		if transform.Key(s) != want {
			t.Errorf("Key(%q): not %v", s, want)
		}
		if want {
			count++
		}
		row := []string{"en", s, "true"}
		hold(t, fmt.Sprintf("Read(%q)", row), transform.Read(row), readAgain(row, want))
	}
	if count != 520 {
		t.Errorf("%d keys, want 520", count)
	}
}

// readAgain is what is read of three subtags, of which the one between is a key, or is none.
func readAgain(row []string, key bool) api.Transform {
	row = small(row)
	if !key {
		return api.Transform{Lang: row}
	}
	return api.Transform{Lang: row[:1], Fields: fields(ext(row[1], row[2]))}
}

// readings are subtags, and what they say.
func readings() map[string]api.Transform {
	return map[string]api.Transform{
		// The chapter's example.
		"en scouse fonipa m0 und h0 hybrid": {Lang: words("en scouse fonipa"), Fields: fields(ext("m0", "und"), ext("h0", "hybrid"))},
		// Nothing, a language alone, fields alone, both.
		"": {}, "en": {Lang: words("en")}, "sr latn rs": {Lang: words("sr latn rs")}, "zh cmn hant tw 1994 scouse": {Lang: words("zh cmn hant tw 1994 scouse")},
		"m0": {Fields: fields(ext("m0"))}, "m0 und": {Fields: fields(ext("m0", "und"))}, "m0 ungegn 2007 x": {Fields: fields(ext("m0", "ungegn", "2007", "x"))},
		"en m0": {Lang: words("en"), Fields: fields(ext("m0"))}, "en us m0 und": {Lang: words("en us"), Fields: fields(ext("m0", "und"))}, "ru m0 a b c k0 d": {Lang: words("ru"), Fields: fields(ext("m0", "a", "b", "c"), ext("k0", "d"))},
		// Keys one behind the other, and there twice.
		"m0 h0": {Fields: fields(ext("m0"), ext("h0"))}, "en m0 h0 k0": {Lang: words("en"), Fields: fields(ext("m0"), ext("h0"), ext("k0"))}, "m0 m0": {Fields: fields(ext("m0"), ext("m0"))}, "m0 h0 x y": {Fields: fields(ext("m0"), ext("h0", "x", "y"))},
		"m0 a m0 b": {Fields: fields(ext("m0", "a"), ext("m0", "b"))}, "m0 a h0 b m0 c": {Fields: fields(ext("m0", "a"), ext("h0", "b"), ext("m0", "c"))}, "z9 a0 m5": {Fields: fields(ext("z9"), ext("a0"), ext("m5"))},
		// Great letters ahead of keys, of keys, and behind them.
		"SR Latn M0 abc": {Lang: words("sr latn"), Fields: fields(ext("m0", "abc"))}, "EN Us SCOUSE H0 Hybrid X0 A": {Lang: words("en us scouse"), Fields: fields(ext("h0", "hybrid"), ext("x0", "a"))}, "M0 m0 A0": {Fields: fields(ext("m0"), ext("m0"), ext("a0"))},
		// What is no key stands as all else does: two letters, two digits, a digit and a letter, one byte or three.
		"mm": {Lang: words("mm")}, "00 0m m 0 m00": {Lang: words("00 0m m 0 m00")}, "m0 mm 00 0m m 0 m00 mm0 x": {Fields: fields(ext("m0", "mm", "00", "0m", "m", "0", "m00", "mm0", "x"))}, "en u co t m0 x a": {Lang: words("en u co t"), Fields: fields(ext("m0", "x", "a"))}, "x m0": {Lang: words("x"), Fields: fields(ext("m0"))},
		// What is no subtag, bytes above 127 among them, stays as it is.
		"É é0 m\xb2 M0 \xff É": {Lang: words("É é0 m\xb2"), Fields: fields(ext("m0", "\xff", "É"))}, "- m0- -m0 @0 [0 `0 {0 m/ m:": {Lang: words("- m0- -m0 @0 [0 `0 {0 m/ m:")}, "en-US M0-X m0 A-B": {Lang: words("en-us m0-x"), Fields: fields(ext("m0", "a-b"))}, "ÀA m٠ K0 \x00Z": {Lang: words("Àa m٠"), Fields: fields(ext("k0", "\x00z"))},
		strings.Repeat("M0", 100): {Lang: []string{strings.Repeat("m0", 100)}}, "m0 " + strings.Repeat("Bé", 100): {Fields: fields(ext("m0", strings.Repeat("bé", 100)))},
	}
}

// P10.1: what subtags say; written, it is the same subtags, in small letters (P10.3).
func TestRead(t *testing.T) {
	for s, want := range readings() {
		for range 2 {
			x := transform.Read(words(s))
			hold(t, fmt.Sprintf("Read(%q)", s), x, want)
			if got := transform.Write(x); !slices.Equal(got, small(words(s))) {
				t.Errorf("%q is written to %q", s, got)
			}
		}
	}
}

// P10.1, R1: no subtags say nothing, and empty ones are no keys.
func TestReadEmpty(t *testing.T) {
	hold(t, "Read(nil)", transform.Read(nil), api.Transform{})
	hold(t, "Read of none", transform.Read([]string{}), api.Transform{})
	hold(t, "Read of an empty one", transform.Read([]string{""}), api.Transform{Lang: []string{""}})
	hold(t, "Read of empty ones", transform.Read([]string{"", "en", "", "m0", "", "", "H0", ""}), api.Transform{Lang: []string{"", "en", ""}, Fields: fields(ext("m0", "", ""), ext("h0", ""))})
}

// holdRead holds what is read of a row, by its keys' places, and what is written of that.
func holdRead(t *testing.T, row []string, key func(string) bool) {
	t.Helper()
	before, low := slices.Clone(row), small(row)
	var places []int
	for i, s := range low {
		if key(s) {
			places = append(places, i)
		}
	}
	places = append(places, len(low))
	want := api.Transform{Lang: low[:places[0]]}
	for i, at := range places[:len(places)-1] {
		want.Fields = append(want.Fields, ext(low[at], low[at+1:places[i+1]]...))
	}
	x := transform.Read(row)
	hold(t, fmt.Sprintf("Read(%.100q)", row), x, want)
	written := transform.Write(x)
	if !slices.Equal(written, low) {
		t.Errorf("%.100q is written to %.100q", row, written)
	}
	hold(t, fmt.Sprintf("Read(%.100q), written and read", row), transform.Read(written), x)
	if !slices.Equal(row, before) {
		t.Errorf("Read changed %.100q to %.100q", before, row)
	}
}

// P10.1, P10.3: what is read of all short rows; it is written to the same, in small letters, and read of that again.
func TestReadAll(t *testing.T) {
	rows([]string{"", "en", "Scouse", "m0", "H0", "0m", "00", "é"}, 5, func(row []string) {
		holdRead(t, row, func(s string) bool { return s == "m0" || s == "h0" })
	})
}

// P1, R5: rows of any size are read and written.
func TestReadMany(t *testing.T) {
	const count = 1 << 17
	key := func(s string) bool { return s == "m0" }
	for _, row := range [][]string{slices.Repeat([]string{"M0"}, count), slices.Repeat([]string{"EN"}, count), slices.Repeat([]string{"m0", "Foo", "BAR"}, count), append([]string{"m0"}, slices.Repeat([]string{""}, count)...), {strings.Repeat("M0", count)}} {
		holdRead(t, row, key)
	}
}

// P10.1: what may be said, also what is never read, is written as it stands.
func TestWrite(t *testing.T) {
	for _, c := range []struct {
		x    api.Transform
		want []string
	}{
		{api.Transform{}, nil}, {api.Transform{Lang: []string{}, Fields: fields()}, nil}, {api.Transform{Lang: words("en us")}, words("en us")}, {api.Transform{Fields: fields(ext("m0"))}, words("m0")},
		{api.Transform{Lang: words("en"), Fields: fields(ext("m0", "a", "b"), ext("h0"), ext("m0", "c"))}, words("en m0 a b h0 m0 c")},
		{api.Transform{Lang: words("EN Scouse Fonipa"), Fields: fields(ext("Z0", "TRUE"), ext("A0", "É", "b"))}, words("EN Scouse Fonipa Z0 TRUE A0 É b")},
		{api.Transform{Lang: words("m0 h0"), Fields: fields(ext("abc", "m0"), ext("a", "h0"))}, words("m0 h0 abc m0 a h0")},
		{api.Transform{Lang: []string{""}, Fields: fields(ext(""), ext("", ""))}, []string{"", "", "", ""}}, {api.Transform{Lang: words("a-b"), Fields: fields(ext("a-0", "c-d", "\xff"))}, words("a-b a-0 c-d \xff")},
	} {
		before := shown(c.x)
		for range 2 {
			if got := transform.Write(c.x); !slices.Equal(got, c.want) {
				t.Errorf("Write(%s): %q, want %q", before, got, c.want)
			}
		}
		if after := shown(c.x); after != before {
			t.Errorf("Write changed %s to %s", before, after)
		}
	}
}
