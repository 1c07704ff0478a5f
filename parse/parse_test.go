package parse_test

import (
	"fmt"
	"testing"

	"isogloss/api"
	"isogloss/fault"
	"isogloss/grand"
	"isogloss/parse"
	"isogloss/tag"
)

// shown tells all of a tag, where an empty row is the same as none.
func shown(x api.Tag) string {
	s := fmt.Sprintf("%q", x)
	if len(s) > 2000 {
		return fmt.Sprintf("%.300s.. of %d bytes", s, len(s))
	}
	return s
}

// ext is an extension.
func ext(key string, subs ...string) api.Ext { return api.Ext{Key: key, Subs: subs} }

// mixed is a text with great letters at every second place.
func mixed(s string) string {
	b := []byte(s)
	for i := 0; i < len(b); i += 2 {
		b[i] = great(s[i : i+1])[0]
	}
	return string(b)
}

// cases are a text of small letters in small, great, and mixed ones.
func cases(s string) []string { return []string{s, great(s), mixed(s), s[:1] + mixed(s[1:])} }

// holdParsed holds what is told of a text that is a tag against that.
func holdParsed(t *testing.T, s string, want api.Tag) {
	t.Helper()
	got, e := parse.Parse(s)
	if e != nil || !tag.Same(got, want) {
		t.Errorf("Parse(%.80q): %s, %v, want %s", s, shown(got), e, shown(want))
	}
	if !parse.Valid(s) {
		t.Errorf("Valid(%.80q): false", s)
	}
}

// sample is a text, and the tag that it is.
type sample struct {
	s    string
	want api.Tag
}

// samples are language tags and private ones: with each field, and with all of them.
func samples() []sample {
	return []sample{
		{"en", api.Tag{Lang: "en"}}, {"eng", api.Tag{Lang: "eng"}}, {"hant", api.Tag{Lang: "hant"}}, {"abcde", api.Tag{Lang: "abcde"}}, {"abcdefgh", api.Tag{Lang: "abcdefgh"}}, {"und", api.Tag{Lang: "und"}},
		{"zh-yue", api.Tag{Lang: "zh", Extlang: []string{"yue"}}}, {"zho-yue", api.Tag{Lang: "zho", Extlang: []string{"yue"}}}, {"zh-cmn-yue", api.Tag{Lang: "zh", Extlang: []string{"cmn", "yue"}}},
		{"zh-cmn-yue-cmn", api.Tag{Lang: "zh", Extlang: []string{"cmn", "yue", "cmn"}}}, {"zh-yue-yue-yue", api.Tag{Lang: "zh", Extlang: []string{"yue", "yue", "yue"}}},
		{"sr-latn", api.Tag{Lang: "sr", Script: "latn"}}, {"latn-latn", api.Tag{Lang: "latn", Script: "latn"}}, {"abcdefgh-latn", api.Tag{Lang: "abcdefgh", Script: "latn"}}, {"zh-yue-hant", api.Tag{Lang: "zh", Extlang: []string{"yue"}, Script: "hant"}},
		{"en-us", api.Tag{Lang: "en", Region: "us"}}, {"es-419", api.Tag{Lang: "es", Region: "419"}}, {"zh-yue-hk", api.Tag{Lang: "zh", Extlang: []string{"yue"}, Region: "hk"}}, {"zh-hant-tw", api.Tag{Lang: "zh", Script: "hant", Region: "tw"}}, {"abcd-us", api.Tag{Lang: "abcd", Region: "us"}},
		{"de-1901", api.Tag{Lang: "de", Variants: []string{"1901"}}}, {"de-1996-1901-fonipa", api.Tag{Lang: "de", Variants: []string{"1996", "1901", "fonipa"}}}, {"sl-rozaj-biske-1994", api.Tag{Lang: "sl", Variants: []string{"rozaj", "biske", "1994"}}},
		{"en-1abc-abcde-a1b2c3d4-12345678", api.Tag{Lang: "en", Variants: []string{"1abc", "abcde", "a1b2c3d4", "12345678"}}}, {"abcdefgh-abcdefgh", api.Tag{Lang: "abcdefgh", Variants: []string{"abcdefgh"}}},
		{"en-u-co", api.Tag{Lang: "en", Exts: []api.Ext{ext("u", "co")}}}, {"en-u-co-co-latn-us-419-1994-scouse-abcdefgh", api.Tag{Lang: "en", Exts: []api.Ext{ext("u", "co", "co", "latn", "us", "419", "1994", "scouse", "abcdefgh")}}},
		{"en-u-co-t-en-0-12345678", api.Tag{Lang: "en", Exts: []api.Ext{ext("u", "co"), ext("t", "en"), ext("0", "12345678")}}}, {"en-9-aa-a-99-z-0a", api.Tag{Lang: "en", Exts: []api.Ext{ext("9", "aa"), ext("a", "99"), ext("z", "0a")}}},
		{"de-1901-a-1901-b-1901-x-1901-1901", api.Tag{Lang: "de", Variants: []string{"1901"}, Exts: []api.Ext{ext("a", "1901"), ext("b", "1901")}, Private: []string{"1901", "1901"}}},
		{"x-a", api.Tag{Private: []string{"a"}}}, {"x-x", api.Tag{Private: []string{"x"}}}, {"x-x-x", api.Tag{Private: []string{"x", "x"}}}, {"x-1", api.Tag{Private: []string{"1"}}}, {"x-abcdefgh-12345678-en-u-u-u", api.Tag{Private: []string{"abcdefgh", "12345678", "en", "u", "u", "u"}}},
		{"x-i-ami", api.Tag{Private: []string{"i", "ami"}}}, {"en-x-i-ami", api.Tag{Lang: "en", Private: []string{"i", "ami"}}},
		{"en-x-a", api.Tag{Lang: "en", Private: []string{"a"}}}, {"en-x-x-x", api.Tag{Lang: "en", Private: []string{"x", "x"}}}, {"en-u-co-x-u-u-1-us-latn", api.Tag{Lang: "en", Exts: []api.Ext{ext("u", "co")}, Private: []string{"u", "u", "1", "us", "latn"}}},
		{"abcd-x-a", api.Tag{Lang: "abcd", Private: []string{"a"}}}, {"zh-yue-x-a", api.Tag{Lang: "zh", Extlang: []string{"yue"}, Private: []string{"a"}}}, {"sr-latn-x-a", api.Tag{Lang: "sr", Script: "latn", Private: []string{"a"}}}, {"de-1901-x-a", api.Tag{Lang: "de", Variants: []string{"1901"}, Private: []string{"a"}}},
		{"zh-hant-u-co", api.Tag{Lang: "zh", Script: "hant", Exts: []api.Ext{ext("u", "co")}}}, {"zh-yue-u-co", api.Tag{Lang: "zh", Extlang: []string{"yue"}, Exts: []api.Ext{ext("u", "co")}}}, {"zh-hant-1994", api.Tag{Lang: "zh", Script: "hant", Variants: []string{"1994"}}},
		{"zh-yue-min-cmn-hant-hk-1994-scouse-u-co-true-t-en-m0-0-12345678-x-a-x-12345678", api.Tag{
			Lang: "zh", Extlang: []string{"yue", "min", "cmn"}, Script: "hant", Region: "hk", Variants: []string{"1994", "scouse"},
			Exts: []api.Ext{ext("u", "co", "true"), ext("t", "en", "m0"), ext("0", "12345678")}, Private: []string{"a", "x", "12345678"},
		}},
	}
}

// nearGrand are language tags that begin, or end, as grandfathered ones do.
func nearGrand() []sample {
	return []sample{
		{"art-lojba", api.Tag{Lang: "art", Variants: []string{"lojba"}}}, {"art-lojban-x-a", api.Tag{Lang: "art", Variants: []string{"lojban"}, Private: []string{"a"}}}, {"cel-gaulish-1994", api.Tag{Lang: "cel", Variants: []string{"gaulish", "1994"}}},
		{"en-gb", api.Tag{Lang: "en", Region: "gb"}}, {"no-bok-no", api.Tag{Lang: "no", Extlang: []string{"bok"}, Region: "no"}}, {"no-nyn-latn", api.Tag{Lang: "no", Extlang: []string{"nyn"}, Script: "latn"}}, {"sgn-be", api.Tag{Lang: "sgn", Region: "be"}},
		{"zh-guoyu-hakka", api.Tag{Lang: "zh", Variants: []string{"guoyu", "hakka"}}}, {"zh-xiang-u-co", api.Tag{Lang: "zh", Variants: []string{"xiang"}, Exts: []api.Ext{ext("u", "co")}}},
		{"zh-min-tw", api.Tag{Lang: "zh", Extlang: []string{"min"}, Region: "tw"}}, {"zh-min-yue", api.Tag{Lang: "zh", Extlang: []string{"min", "yue"}}}, {"zh-nan-min", api.Tag{Lang: "zh", Extlang: []string{"nan", "min"}}},
		{"zh-min-nan-min", api.Tag{Lang: "zh", Extlang: []string{"min", "nan", "min"}}}, {"zh-min-nan-x-a", api.Tag{Lang: "zh", Extlang: []string{"min", "nan"}, Private: []string{"a"}}}, {"lojban", api.Tag{Lang: "lojban"}},
	}
}

// P7.1: texts that are tags, in whatever cases.
func TestParsed(t *testing.T) {
	for _, c := range append(samples(), nearGrand()...) {
		for _, s := range cases(c.s) {
			holdParsed(t, s, c.want)
		}
	}
}

// P7.1: each of the grandfathered tags, as a whole.
func TestGrandfathered(t *testing.T) {
	for _, name := range grand.All() {
		for _, s := range cases(name) {
			holdParsed(t, s, api.Tag{Grand: name})
		}
	}
}

// P7.1: fields that the text has nothing of are empty.
func TestNothingElse(t *testing.T) {
	for s, want := range map[string]string{"EN": `{"en" [] "" "" [] [] [] ""}`, "X-A": `{"" [] "" "" [] [] ["a"] ""}`, "I-AMI": `{"" [] "" "" [] [] [] "i-ami"}`, "en-US-u-CO": `{"en" [] "" "us" [] [{"u" ["co"]}] [] ""}`} {
		got, e := parse.Parse(s)
		if e != nil || shown(got) != want {
			t.Errorf("Parse(%q): %s, %v, want %s", s, shown(got), e, want)
		}
	}
}

// spoil puts other texts into all rows of a tag, and behind their ends, where their memory goes on.
func spoil(x api.Tag) {
	rows := [][]string{x.Extlang, x.Variants, x.Private}
	for _, e := range x.Exts {
		rows = append(rows, e.Subs)
	}
	for n, row := range rows {
		row = row[:cap(row)]
		for i := range row {
			row[i] = fmt.Sprint("spoilt", n)
		}
	}
	for i := range x.Exts[:cap(x.Exts)] {
		x.Exts[:cap(x.Exts)][i] = api.Ext{Key: "spoilt"}
	}
}

// R3, R4: what is told is the caller's, and the same is told again; no two rows of a tag share memory.
func TestOwn(t *testing.T) {
	for _, c := range append(samples(), nearGrand()...) {
		x, _ := parse.Parse(c.s)
		spoil(x)
		holdParsed(t, c.s, c.want)
		y, _ := parse.First(c.s)
		spoil(y)
		holdFirst(t, c.s, c.want, "")
		x, _ = parse.Parse(c.s)
		for _, row := range [][]string{x.Extlang, x.Variants, x.Private} {
			_ = append(row, "spoilt")
		}
		for i := range x.Exts {
			_ = append(x.Exts[i].Subs, "spoilt")
		}
		if !tag.Same(x, c.want) {
			t.Errorf("rows of %s share memory: %s", c.s, shown(x))
		}
	}
}

// The chapter's examples, and those of the whole that tell of parsing.
func TestExamples(t *testing.T) {
	holdParsed(t, "zh-Hant-TW-x-a", api.Tag{Lang: "zh", Script: "hant", Region: "tw", Private: []string{"a"}})
	holdParsed(t, "SGN-be-FR", api.Tag{Grand: "sgn-be-fr"})
	holdParsed(t, "en-ca-X-CA-latn", api.Tag{Lang: "en", Region: "ca", Private: []string{"ca", "latn"}})
	_, e := parse.Parse("de-1901-1901")
	if fault.Kind(e) != api.ErrDuplicate || fault.Place(e) != 8 {
		t.Errorf("Parse(de-1901-1901): %v", e)
	}
}
