package transform_test

import (
	"fmt"
	"slices"
	"strings"
	"testing"

	"isogloss/api"
	"isogloss/tag"
	"isogloss/transform"
)

// holdLanguage holds what it is of against what that must be.
func holdLanguage(t *testing.T, x api.Transform, want api.Tag, found bool) {
	t.Helper()
	before := shown(x)
	for range 2 {
		got, ok := transform.Language(x)
		if ok != found || !tag.Same(got, want) {
			t.Errorf("Language(%s): %q, %v, want %q, %v", before, got, ok, want, found)
		}
		if !ok && (got.Extlang != nil || got.Variants != nil || got.Exts != nil || got.Private != nil) {
			t.Errorf("Language(%s): false with a row", before)
		}
	}
	if after := shown(x); after != before {
		t.Errorf("Language changed %s to %s", before, after)
	}
}

// languages are texts that it may be of, and their tags.
func languages() map[string]api.Tag {
	return map[string]api.Tag{
		"en": {Lang: "en"}, "und": {Lang: "und"}, "abcd": {Lang: "abcd"}, "abcdefgh": {Lang: "abcdefgh"},
		"en us": {Lang: "en", Region: "us"}, "es 419": {Lang: "es", Region: "419"}, "sr latn": {Lang: "sr", Script: "latn"}, "zh hant tw": {Lang: "zh", Script: "hant", Region: "tw"},
		"zh cmn": {Lang: "zh", Extlang: words("cmn")}, "zh cmn hans cn": {Lang: "zh", Extlang: words("cmn"), Script: "hans", Region: "cn"}, "aa bbb ccc ddd": {Lang: "aa", Extlang: words("bbb ccc ddd")},
		// Variants stay as they stood.
		"en scouse": {Lang: "en", Variants: words("scouse")}, "en scouse fonipa": {Lang: "en", Variants: words("scouse fonipa")}, "de at 1996 1901 fonipa": {Lang: "de", Region: "at", Variants: words("1996 1901 fonipa")}, "sr latn rs scouse 1994 0abc": {Lang: "sr", Script: "latn", Region: "rs", Variants: words("scouse 1994 0abc")},
		// All is in small letters.
		"EN": {Lang: "en"}, "ZH Cmn HANT Tw Scouse FONIPA": {Lang: "zh", Extlang: words("cmn"), Script: "hant", Region: "tw", Variants: words("scouse fonipa")},
		// Lang is joined: a text of it may be more than one subtag.
		"en-us": {Lang: "en", Region: "us"}, "SR-Latn rs-scouse FONIPA": {Lang: "sr", Script: "latn", Region: "rs", Variants: words("scouse fonipa")},
	}
}

// noLanguages are texts that it is not of.
func noLanguages() []string {
	return []string{
		// None, or no tag.
		"", "e", "1", "us1", "1994", "419", "abcdefghi", "m0", "en m0", "M0 en", "en us us", "en latn latn", "latn us en", "en us latn", "en a", "en u", "en x", "t", "x", "0",
		"en scouse scouse", "en Scouse SCOUSE", "de 1901 fonipa 1901", "en 1994 us", "abcd efg", "aa bbb ccc ddd eee", "en é", "é", "\xff", "en \xc3", "en us\x80", "en us\x00", "en_us", "en- us", "-", "en -us", "en--us",
		// A grandfathered one, also one that is regular.
		"i klingon", "I Default", "i-ami", "art lojban", "ART LOJBAN", "zh min nan", "zh min", "no bok", "en gb oed", "sgn be fr", "cel gaulish", "zh-xiang",
		// One with extensions, with private subtags, with both; private alone.
		"en u co", "en us a bcd", "en t es", "en 0 ab", "sr latn rs scouse u ca buddhist", "en x b", "en us fonipa x b", "EN X B", "en u co x b", "x b", "x en us", "en-x-b", "zh min x a",
	}
}

// P10.2: what it is of, whatever its fields are.
func TestLanguage(t *testing.T) {
	for _, f := range [][]api.Ext{nil, {}, fields(ext("m0", "und")), fields(ext("us"), ext("x", "y"), ext("", ""))} {
		for s, want := range languages() {
			holdLanguage(t, api.Transform{Lang: words(s), Fields: f}, want, true)
		}
		for _, s := range noLanguages() {
			holdLanguage(t, api.Transform{Lang: words(s), Fields: f}, api.Tag{}, false)
		}
	}
}

// P10.2: empty texts of Lang are empty subtags.
func TestLanguageEmpty(t *testing.T) {
	for _, lang := range [][]string{nil, {}, {""}, {"", ""}, {"", "en"}, {"en", ""}, {"en", "", "us"}, {"en", "us", ""}} {
		holdLanguage(t, api.Transform{Lang: lang}, api.Tag{}, false)
		holdLanguage(t, api.Transform{Lang: lang, Fields: fields(ext("en"))}, api.Tag{}, false)
	}
}

// P10.2: of what is read, what stands ahead of the first key alone is what it is of.
func TestLanguageRead(t *testing.T) {
	for s, want := range languages() {
		for _, f := range []string{"", " m0", " M0 und H0 hybrid", " x0 u co x b"} {
			holdLanguage(t, transform.Read(words(s+f)), want, true)
		}
		holdLanguage(t, transform.Read(words("m0 "+s)), api.Tag{}, false)
	}
}

// variantsOf are so many variants, in no order, each there once.
func variantsOf(count int) []string {
	var out []string
	for i := range count {
		out = append(out, fmt.Sprintf("v%06d", i*7919%count))
	}
	return out
}

// P1, P10.2, R5: a tag of a great many variants is one, too, and is put in order; one that is there twice is none.
func TestLanguageMany(t *testing.T) {
	const count = 1 << 16
	variants := variantsOf(count)
	x := api.Transform{Lang: append([]string{"EN"}, variants...)}
	holdMany(t, x, api.Tag{Lang: "en", Variants: variants}, true)
	hold(t, "Order of many variants", transform.Order(x), api.Transform{Lang: append([]string{"en"}, slices.Sorted(slices.Values(variants))...)})
	x.Lang = append(x.Lang, "V000000")
	holdMany(t, x, api.Tag{}, false)
	hold(t, "Order of many variants, one there twice", transform.Order(x), api.Transform{Lang: small(x.Lang)})
	holdMany(t, api.Transform{Lang: slices.Repeat([]string{"en"}, count)}, api.Tag{}, false)
	holdMany(t, api.Transform{Lang: []string{strings.Repeat("en", count)}}, api.Tag{}, false)
}

// holdMany is holdLanguage of what is too much to be shown.
func holdMany(t *testing.T, x api.Transform, want api.Tag, found bool) {
	t.Helper()
	if got, ok := transform.Language(x); ok != found || !tag.Same(got, want) {
		t.Errorf("Language of %d: %v, %d variants", len(x.Lang), ok, len(got.Variants))
	}
}
