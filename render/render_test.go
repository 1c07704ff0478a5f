package render_test

import (
	"fmt"
	"slices"
	"strings"
	"testing"

	"isogloss/api"
	"isogloss/grand"
	"isogloss/parse"
	"isogloss/render"
	"isogloss/tag"
)

// shown tells all of a tag.
func shown(x api.Tag) string {
	s := fmt.Sprintf("%#v", x)
	if len(s) > 2000 {
		return fmt.Sprintf("%.300s.. of %d bytes", s, len(s))
	}
	return s
}

// ext is an extension.
func ext(key string, subs ...string) api.Ext { return api.Ext{Key: key, Subs: subs} }

// sample is a tag, and its texts.
type sample struct {
	tag           api.Tag
	lower, string string
}

// full is a right tag with all fields that may be there together.
func full() api.Tag {
	return api.Tag{
		Lang: "zh", Extlang: []string{"yue", "min", "cmn"}, Script: "hant", Region: "hk", Variants: []string{"1994", "scouse", "1abc"},
		Exts:    []api.Ext{ext("u", "co", "true"), ext("t", "en", "latn", "us", "m0"), ext("0", "12345678")},
		Private: []string{"a", "x", "us", "latn", "12345678"},
	}
}

// rightSamples are right tags: with each field, and with all of them, private ones, and grandfathered ones.
func rightSamples() []sample {
	return []sample{
		{api.Tag{Lang: "en"}, "en", "en"}, {api.Tag{Lang: "eng"}, "eng", "eng"}, {api.Tag{Lang: "hant"}, "hant", "hant"}, {api.Tag{Lang: "abcdefgh"}, "abcdefgh", "abcdefgh"},
		{api.Tag{Lang: "zh", Extlang: []string{"yue"}}, "zh-yue", "zh-yue"}, {api.Tag{Lang: "zho", Extlang: []string{"yue", "min", "cmn"}}, "zho-yue-min-cmn", "zho-yue-min-cmn"},
		{api.Tag{Lang: "sr", Script: "latn"}, "sr-latn", "sr-Latn"}, {api.Tag{Lang: "latn", Script: "latn"}, "latn-latn", "latn-Latn"},
		{api.Tag{Lang: "en", Region: "us"}, "en-us", "en-US"}, {api.Tag{Lang: "es", Region: "419"}, "es-419", "es-419"}, {api.Tag{Lang: "us", Region: "us"}, "us-us", "us-US"},
		{api.Tag{Lang: "az", Script: "latn", Region: "az"}, "az-latn-az", "az-Latn-AZ"}, {api.Tag{Lang: "zh", Extlang: []string{"yue"}, Region: "hk"}, "zh-yue-hk", "zh-yue-HK"},
		{api.Tag{Lang: "de", Variants: []string{"1901"}}, "de-1901", "de-1901"}, {api.Tag{Lang: "sl", Variants: []string{"rozaj", "biske", "1994", "1abc"}}, "sl-rozaj-biske-1994-1abc", "sl-rozaj-biske-1994-1abc"},
		{api.Tag{Lang: "en", Exts: []api.Ext{ext("u", "ca", "latn")}}, "en-u-ca-latn", "en-u-ca-latn"}, {api.Tag{Lang: "en", Region: "us", Exts: []api.Ext{ext("t", "en", "us"), ext("1", "aa"), ext("u", "co")}}, "en-us-t-en-us-1-aa-u-co", "en-US-t-en-us-1-aa-u-co"},
		{api.Tag{Lang: "en", Private: []string{"a"}}, "en-x-a", "en-x-a"}, {api.Tag{Lang: "en", Region: "ca", Private: []string{"ca", "latn"}}, "en-ca-x-ca-latn", "en-CA-x-ca-latn"}, {api.Tag{Lang: "en", Private: []string{"us", "x", "us"}}, "en-x-us-x-us", "en-x-us-x-us"},
		{api.Tag{Private: []string{"a"}}, "x-a", "x-a"}, {api.Tag{Private: []string{"x"}}, "x-x", "x-x"}, {api.Tag{Private: []string{"us", "latn", "abc", "1", "abcdefgh"}}, "x-us-latn-abc-1-abcdefgh", "x-us-latn-abc-1-abcdefgh"},
		{api.Tag{Lang: "en", Extlang: []string{}, Variants: []string{}, Exts: []api.Ext{}, Private: []string{}}, "en", "en"},
		{full(), "zh-yue-min-cmn-hant-hk-1994-scouse-1abc-u-co-true-t-en-latn-us-m0-0-12345678-x-a-x-us-latn-12345678", "zh-yue-min-cmn-Hant-HK-1994-scouse-1abc-u-co-true-t-en-latn-us-m0-0-12345678-x-a-x-us-latn-12345678"},
		{api.Tag{Grand: "art-lojban"}, "art-lojban", "art-lojban"}, {api.Tag{Grand: "cel-gaulish"}, "cel-gaulish", "cel-gaulish"}, {api.Tag{Grand: "en-gb-oed"}, "en-gb-oed", "en-GB-oed"}, {api.Tag{Grand: "i-ami"}, "i-ami", "i-ami"}, {api.Tag{Grand: "i-klingon"}, "i-klingon", "i-klingon"},
		{api.Tag{Grand: "no-bok"}, "no-bok", "no-bok"}, {api.Tag{Grand: "sgn-be-fr"}, "sgn-be-fr", "sgn-BE-FR"}, {api.Tag{Grand: "sgn-ch-de"}, "sgn-ch-de", "sgn-CH-DE"}, {api.Tag{Grand: "zh-min-nan"}, "zh-min-nan", "zh-min-nan"},
	}
}

// wrongSamples are tags that are not right, the zero tag among them.
func wrongSamples() []sample {
	return []sample{
		{api.Tag{}, "", ""}, {api.Tag{Extlang: []string{}, Variants: []string{}, Exts: []api.Ext{}, Private: []string{}}, "", ""},
		// Lower tells fields as they stand, and String their cases.
		{api.Tag{Lang: "EN", Script: "LATN", Region: "us", Variants: []string{"SCOUSE", "Us"}}, "EN-LATN-us-SCOUSE-Us", "en-Latn-US-scouse-US"}, {api.Tag{Grand: "EN-gb-OED"}, "EN-gb-OED", "en-GB-oed"}, {api.Tag{Lang: "en", Exts: []api.Ext{ext("U", "CO")}, Private: []string{"US"}}, "en-U-CO-x-US", "en-u-co-x-us"},
		// What stands in the place of another field, or in none.
		{api.Tag{Script: "latn"}, "latn", "latn"}, {api.Tag{Region: "us"}, "us", "us"}, {api.Tag{Script: "us", Region: "latn"}, "us-latn", "us-Latn"}, {api.Tag{Variants: []string{"us", "us"}}, "us-us", "us-US"}, {api.Tag{Exts: []api.Ext{ext("u", "us")}}, "u-us", "u-us"}, {api.Tag{Lang: "i", Region: "us"}, "i-us", "i-us"}, {api.Tag{Lang: "en", Script: "a", Region: "us"}, "en-a-us", "en-a-us"},
		{api.Tag{Lang: "us", Extlang: []string{"us", "latn"}}, "us-us-latn", "us-US-Latn"}, {api.Tag{Lang: "en", Exts: []api.Ext{ext("uu", "us"), ext("latn")}}, "en-uu-us-latn", "en-UU-US-Latn"}, {api.Tag{Grand: "i-ami", Lang: "en", Region: "us"}, "i-ami", "i-ami"}, {api.Tag{Grand: "us-us"}, "us-us", "us-US"},
		// Empty texts, and texts of more pieces than one.
		{api.Tag{Lang: "en", Variants: []string{""}}, "en-", "en-"}, {api.Tag{Variants: []string{"", ""}}, "-", "-"}, {api.Tag{Variants: []string{""}}, "", ""}, {api.Tag{Lang: "en", Exts: []api.Ext{{}}}, "en-", "en-"}, {api.Tag{Exts: []api.Ext{ext("", "us")}}, "-us", "-US"}, {api.Tag{Private: []string{""}}, "x-", "x-"}, {api.Tag{Private: []string{"", "us"}}, "x--us", "x--us"}, {api.Tag{Lang: "en", Exts: []api.Ext{ext("u")}}, "en-u", "en-u"},
		{api.Tag{Lang: "en-us", Script: "u-us", Region: "-"}, "en-us-u-us--", "en-US-u-us--"}, {api.Tag{Grand: "-"}, "-", "-"}, {api.Tag{Grand: "-us-"}, "-us-", "-US-"}, {api.Tag{Lang: "-", Region: "us"}, "--us", "--US"},
		// Other bytes.
		{api.Tag{Lang: "É", Region: "é", Variants: []string{"AéB", "\xff\xffaB"}}, "É-é-AéB-\xff\xffaB", "É-é-Aéb-\xff\xffab"}, {api.Tag{Lang: "en", Script: "\xff", Region: "us"}, "en-\xff-us", "en-\xff-us"}, {api.Tag{Grand: "é-us"}, "é-us", "é-US"}, {api.Tag{Lang: "en_us"}, "en_us", "en_us"}, {api.Tag{Lang: "\x00\x00", Region: "\x00a"}, "\x00\x00-\x00a", "\x00\x00-\x00A"},
		{api.Tag{Lang: "de", Variants: []string{"1901", "1901"}}, "de-1901-1901", "de-1901-1901"}, {api.Tag{Lang: strings.Repeat("a", 100), Region: "us"}, strings.Repeat("a", 100) + "-us", strings.Repeat("a", 100) + "-US"},
	}
}

// holdTexts holds a tag's texts against what they should be, twice, and that the tag stays as it was.
func holdTexts(t *testing.T, c sample) {
	t.Helper()
	before := shown(c.tag)
	for range 2 {
		if got := render.Lower(c.tag); got != c.lower {
			t.Errorf("Lower(%s): %.200q, want %.200q", before, got, c.lower)
		}
		if got := render.String(c.tag); got != c.string {
			t.Errorf("String(%s): %.200q, want %.200q", before, got, c.string)
		}
	}
	if after := shown(c.tag); after != before {
		t.Errorf("%s was changed to %s", before, after)
	}
}

// P8.1: right tags' texts.
func TestRightTags(t *testing.T) {
	for _, c := range rightSamples() {
		if !tag.Right(c.tag) {
			t.Errorf("%s isn't right", shown(c.tag))
		}
		holdTexts(t, c)
	}
}

// P8.1: the texts of tags that are not right.
func TestWrongTags(t *testing.T) {
	for _, c := range wrongSamples() {
		if tag.Right(c.tag) {
			t.Errorf("%s is right", shown(c.tag))
		}
		holdTexts(t, c)
	}
}

// holdBack holds that all texts of a right tag are parsed to it.
func holdBack(t *testing.T, x api.Tag) {
	t.Helper()
	for _, s := range []string{render.Lower(x), render.String(x), render.Case(render.Lower(x)), render.Case(great(render.Lower(x)))} {
		if y, e := parse.Parse(s); e != nil || !tag.Same(x, y) {
			t.Errorf("Parse(%.200s), which is told of %s: %s, %v", s, shown(x), shown(y), e)
		}
	}
	if lower := strings.Join(tag.Subtags(x), "-"); render.Lower(x) != lower || render.String(x) != casedOf(lower) {
		t.Errorf("%s: %s, %s", shown(x), render.Lower(x), render.String(x))
	}
}

// makes tells tags of each field with all others, right ones and wrong ones.
func makes() []api.Tag {
	var all []api.Tag
	for _, lang := range []string{"", "zh", "zho", "abcd", "abcdefgh", "x"} {
		for _, extlang := range [][]string{nil, {"yue"}, {"min", "nan", "min"}} {
			for _, script := range []string{"", "latn"} {
				for _, region := range []string{"", "be", "419"} {
					for _, variants := range [][]string{nil, {"1994"}, {"scouse", "1abc"}, {"1994", "1994"}} {
						for _, exts := range [][]api.Ext{nil, {ext("u", "co", "co", "latn")}, {ext("t", "en"), ext("0", "1994", "us")}} {
							for _, private := range [][]string{nil, {"a"}, {"us", "latn", "1", "u"}} {
								all = append(all, api.Tag{Lang: lang, Extlang: extlang, Script: script, Region: region, Variants: variants, Exts: exts, Private: private})
							}
						}
					}
				}
			}
		}
	}
	for _, name := range grand.All() {
		all = append(all, api.Tag{Grand: name})
	}
	return all
}

// P8.2: what is told of a right tag is parsed to it.
func TestParsedBack(t *testing.T) {
	count := 0
	for _, x := range makes() {
		if tag.Right(x) {
			holdBack(t, x)
			count++
		}
	}
	if count < 1000 {
		t.Errorf("only %d right tags", count)
	}
	for _, c := range rightSamples() {
		holdBack(t, c.tag)
	}
	for _, s := range rows([]string{"En", "yue", "latN", "419", "1994", "sCouse", "u", "T", "x", "i", "ami", "oed", "a1", ""}, 4) {
		if x, e := parse.Parse(s); e == nil {
			holdBack(t, x)
		}
	}
}

// P1, R5: tags of any size are told in full, and soon.
func TestLongTags(t *testing.T) {
	const count = 1 << 17
	x := api.Tag{Lang: "en", Region: "us"}
	for i := range count {
		x.Variants = append(x.Variants, fmt.Sprintf("%08d", i))
	}
	x.Exts = []api.Ext{ext("u", slices.Repeat([]string{"latn"}, count)...)}
	x.Private = slices.Repeat([]string{"us"}, count)
	behind := "-" + strings.Join(x.Variants, "-") + "-u" + strings.Repeat("-latn", count) + "-x" + strings.Repeat("-us", count)
	holdTexts(t, sample{x, "en-us" + behind, "en-US" + behind})
	holdBack(t, x)
}
