package transform_test

import (
	"fmt"
	"slices"
	"strings"
	"testing"

	"isogloss/api"
	"isogloss/parse"
	"isogloss/transform"
)

// orders are subtags as they are read, and as they are written in order.
func orders() map[string]string {
	return map[string]string{
		// The chapter's example.
		"en scouse fonipa m0 und h0 hybrid": "en fonipa scouse h0 hybrid m0 und",
		// A language alone: no variant, one, and several that fall, rise, and neither.
		"": "", "en": "en", "EN Us": "en us", "zh cmn hant tw": "zh cmn hant tw", "en scouse": "en scouse", "en us scouse fonipa": "en us fonipa scouse", "en us fonipa scouse": "en us fonipa scouse", "sr latn scouse fonipa 1994": "sr latn 1994 fonipa scouse", "de 1996 1901": "de 1901 1996", "de fonipa 1996 scouse 1901": "de 1901 1996 fonipa scouse",
		// Byte by byte: digits ahead of letters, a beginning ahead of what goes on.
		"en abcdef abcde 1abc 0zzz abcd0": "en 0zzz 1abc abcd0 abcde abcdef",
		// Fields alone: rising, of several of one Key the first alone.
		"m0": "m0", "m0 h0": "h0 m0", "h0 m0": "h0 m0", "z9 a9 a0 m5 b0": "a0 a9 b0 m5 z9", "m0 b m0 a": "m0 b", "m0 m0 a": "m0", "m0 a m0": "m0 a", "m0 b h0 x m0 a h0 y": "h0 x m0 b", "x0 z m0 b x0 y": "m0 b x0 z",
		// What stands behind a key stays in its order, and may be there twice.
		"m0 b a b true": "m0 b a b true", "m0 true": "m0 true", "h0 scouse fonipa a0 z y": "a0 z y h0 scouse fonipa",
		// Both, and great letters.
		"EN Scouse FONIPA M0 Und H0 Hybrid m0 x": "en fonipa scouse h0 hybrid m0 und", "ru k0 b a0": "ru a0 k0 b",
		// Nothing that it is of: Lang in small letters alone.
		"Scouse Fonipa EN": "scouse fonipa en", "en Scouse Fonipa SCOUSE m0 h0": "en scouse fonipa scouse h0 m0", "en us us scouse fonipa": "en us us scouse fonipa", "e scouse fonipa": "e scouse fonipa", "en x Scouse FONIPA k0 c": "en x scouse fonipa k0 c", "X Scouse Fonipa": "x scouse fonipa", "en scouse fonipa u Co m0 a": "en scouse fonipa u co m0 a", "en scouse fonipa x b": "en scouse fonipa x b", "I Klingon m0 a h0 b": "i klingon h0 b m0 a", "EN GB OED": "en gb oed", "Zh Min Nan x0": "zh min nan x0", "en é SCOUSE Fonipa É": "en é scouse fonipa É",
	}
}

// P10.2: what is read of subtags, in order.
func TestOrder(t *testing.T) {
	for s, want := range orders() {
		x := transform.Read(words(s))
		before := shown(x)
		for range 2 {
			if got := transform.Write(transform.Order(x)); !slices.Equal(got, words(want)) {
				t.Errorf("%q is ordered to %q, want %q", s, got, words(want))
			}
		}
		if after := shown(x); after != before {
			t.Errorf("Order changed %s to %s", before, after)
		}
	}
}

// P10.2: what is never read is ordered, too: Lang in small letters, or as its tag's subtags, fields as they stand, byte by byte.
func TestOrderOthers(t *testing.T) {
	for _, c := range []struct{ x, want api.Transform }{
		{api.Transform{}, api.Transform{}}, {api.Transform{Lang: []string{}, Fields: fields()}, api.Transform{}},
		{api.Transform{Lang: words("EN Scouse FONIPA")}, api.Transform{Lang: words("en fonipa scouse")}}, {api.Transform{Lang: words("EN M0 Scouse Fonipa")}, api.Transform{Lang: words("en m0 scouse fonipa")}},
		{api.Transform{Lang: words("EN-US-scouse fonipa")}, api.Transform{Lang: words("en us fonipa scouse")}}, {api.Transform{Lang: words("EN-X-scouse Fonipa")}, api.Transform{Lang: words("en-x-scouse fonipa")}}, {api.Transform{Lang: words("I-KLINGON")}, api.Transform{Lang: words("i-klingon")}},
		{api.Transform{Lang: []string{"", "EN", ""}, Fields: fields(ext("m0", ""), ext("h0", "", ""))}, api.Transform{Lang: []string{"", "en", ""}, Fields: fields(ext("h0", "", ""), ext("m0", ""))}},
		{api.Transform{Fields: fields(ext("m0", "B"), ext("M0", "a"), ext("m0", "C"), ext("M0"))}, api.Transform{Fields: fields(ext("M0", "a"), ext("m0", "B"))}},
		{api.Transform{Fields: fields(ext("abc", "x"), ext("", "y"), ext("ab", "Z"), ext("a"), ext("", "z"), ext("abc", "w"))}, api.Transform{Fields: fields(ext("", "y"), ext("a"), ext("ab", "Z"), ext("abc", "x"))}},
		{api.Transform{Lang: words("É"), Fields: fields(ext("\xff", "b"), ext("\x7f", "a"), ext("é", "É"), ext("_"), ext("Z"), ext("\xff", "a"))}, api.Transform{Lang: words("É"), Fields: fields(ext("Z"), ext("_"), ext("\x7f", "a"), ext("é", "É"), ext("\xff", "b"))}},
	} {
		before := shown(c.x)
		o := transform.Order(c.x)
		hold(t, "Order("+before+")", o, c.want)
		hold(t, "Order("+before+") twice", transform.Order(o), o)
		if after := shown(c.x); after != before {
			t.Errorf("Order changed %s to %s", before, after)
		}
	}
}

// least is the place of the least key that is above another one, the first of that key; -1 if there is none.
func least(all []api.Ext, above string, any bool) int {
	at := -1
	for i, f := range all {
		if (any || f.Key > above) && (at < 0 || f.Key < all[at].Key) {
			at = i
		}
	}
	return at
}

// orderAgain is it in order: the tag's variants rising, and the least field that is left, again and again.
func orderAgain(x api.Transform) api.Transform {
	out := api.Transform{Lang: small(x.Lang)}
	g, e := parse.Parse(strings.Join(x.Lang, "-"))
	if e == nil && g.Grand == "" && len(g.Exts)+len(g.Private) == 0 {
		out.Lang = strings.Split(strings.Join(out.Lang, "-"), "-")
		slices.Sort(out.Lang[len(out.Lang)-len(g.Variants):])
	}
	for at := least(x.Fields, "", true); at >= 0; at = least(x.Fields, x.Fields[at].Key, false) {
		out.Fields = append(out.Fields, x.Fields[at])
	}
	return out
}

// holdOrder holds it in order against what that must be; it is the same, ordered twice (P10.3).
func holdOrder(t *testing.T, x api.Transform) api.Transform {
	t.Helper()
	before := shown(x)
	o := transform.Order(x)
	hold(t, "Order("+before+")", o, orderAgain(x))
	hold(t, "Order("+before+") twice", transform.Order(o), o)
	a, some := transform.Language(x)
	if b, found := transform.Language(o); found != some || a.Lang != b.Lang || a.Script != b.Script || a.Region != b.Region || len(a.Variants) != len(b.Variants) || !slices.IsSorted(b.Variants) {
		t.Errorf("Language(Order(%s)): %q, %v, want %q, %v", before, b, found, a, some)
	}
	if after := shown(x); after != before {
		t.Errorf("Order changed %s to %s", before, after)
	}
	return o
}

// P10.2, P10.3: what is read of all short rows, in order; read of what is written, it is the same.
func TestOrderAll(t *testing.T) {
	rows([]string{"", "En", "us", "scouse", "Fonipa", "1994", "x", "m0", "H0"}, 5, func(row []string) {
		o := holdOrder(t, transform.Read(row))
		hold(t, fmt.Sprintf("Order(Read(%q)) written and read", row), transform.Read(transform.Write(o)), o)
	})
}

// P10.2, P10.3: what is read of all short rows of languages.
func TestOrderAllLanguages(t *testing.T) {
	rows([]string{"zh", "Min", "nan", "Latn", "scouse", "1994", "u", "i"}, 5, func(row []string) {
		holdOrder(t, transform.Read(append([]string{"SR"}, row...)))
		holdOrder(t, transform.Read(append(slices.Clone(row), "m0", "zz")))
	})
}

// P10.2, P10.3: what is never read, of all short rows of texts and of fields.
func TestOrderAllOthers(t *testing.T) {
	rows([]string{"", "a", "M0", "m0", "En", "en-scouse", "\xff"}, 5, func(row []string) {
		x := api.Transform{Lang: slices.Clone(row)}
		for i, s := range row {
			x.Fields = append(x.Fields, ext(s, []string{"True", "x", "true"}[i%3:]...))
		}
		holdOrder(t, x)
	})
}

// P1, R5: a great many fields are ordered soon.
func TestOrderMany(t *testing.T) {
	const count = 1 << 16
	for _, step := range []int{1, 7919, count - 1, 2, 0} {
		var x, want api.Transform
		for i := range count {
			x.Fields = append(x.Fields, ext(fmt.Sprintf("%08d", i*step%count), fmt.Sprint(i)))
		}
		first := map[string]api.Ext{}
		for _, f := range slices.Backward(x.Fields) {
			first[f.Key] = f
		}
		for i := range count {
			if f, ok := first[fmt.Sprintf("%08d", i)]; ok {
				want.Fields = append(want.Fields, f)
			}
		}
		hold(t, fmt.Sprintf("Order of many, by %d", step), transform.Order(x), want)
	}
	long := strings.Repeat("a", 1<<20)
	hold(t, "Order of long ones", transform.Order(api.Transform{Lang: []string{long}, Fields: fields(ext(long+"b"), ext(long+"a"), ext(long), ext(long+"b", "x"))}), api.Transform{Lang: []string{long}, Fields: fields(ext(long), ext(long+"a"), ext(long+"b"))})
	many := slices.Repeat([]string{"True"}, count)
	hold(t, "Order of a long value", transform.Order(api.Transform{Fields: fields(ext("m0", many...))}), api.Transform{Fields: fields(ext("m0", many...))})
}
