package parse_test

import (
	"fmt"
	"strings"
	"testing"

	"isogloss/api"
	"isogloss/grand"
	"isogloss/parse"
	"isogloss/split"
	"isogloss/tag"
)

// P7.3: what is parsed is right, and its subtags, joined, are the text in small letters.
func TestParsedIsRight(t *testing.T) {
	texts := rows(kinds(), 3)
	for _, c := range append(samples(), nearGrand()...) {
		texts = append(texts, cases(c.s)...)
	}
	for _, name := range grand.All() {
		texts = append(texts, cases(name)...)
	}
	for _, s := range texts {
		x, e := parse.Parse(s)
		if e != nil {
			continue
		}
		if got := split.Join(tag.Subtags(x)...); !tag.Right(x) || got != strings.ToLower(s) {
			t.Errorf("Parse(%s): %s, whose subtags are %s", s, shown(x), got)
		}
	}
}

// makes tells tags of all makes: each field with all others, right ones among them and wrong ones.
func makes() []api.Tag {
	var all []api.Tag
	texts := [][]string{nil, {"1994"}, {"scouse", "1994"}, {"hakka"}, {"1994", "1994"}}
	extlangs := [][]string{nil, {"min"}, {"min", "nan"}, {"yue", "yue", "yue"}, {"yue", "yue", "yue", "yue"}}
	exts := [][]api.Ext{nil, {ext("u", "co", "co")}, {ext("t", "en"), ext("0", "1994", "latn")}, {ext("u", "co"), ext("u", "ca")}, {ext("u")}}
	privates := [][]string{nil, {"a"}, {"x", "1994", "1994", "u"}, {"abcdefghi"}}
	for _, lang := range []string{"", "zh", "sgn", "abcd", "abcdefgh", "x"} {
		for _, extlang := range extlangs {
			for _, script := range []string{"", "latn"} {
				for _, region := range []string{"", "be", "419"} {
					for _, variants := range texts {
						for _, row := range exts {
							for _, private := range privates {
								all = append(all, api.Tag{Lang: lang, Extlang: extlang, Script: script, Region: region, Variants: variants, Exts: row, Private: private})
							}
						}
					}
				}
			}
		}
	}
	for _, name := range grand.All() {
		all = append(all, api.Tag{Grand: name})
	}
	return all
}

// P7.3: each right tag is parsed of its subtags, joined; no other tag is.
func TestRightIsParsed(t *testing.T) {
	count := 0
	for _, x := range makes() {
		s := split.Join(tag.Subtags(x)...)
		if tag.Right(x) {
			holdParsed(t, s, x)
			count++
			continue
		}
		if y, e := parse.Parse(s); e == nil && tag.Same(x, y) {
			t.Errorf("Parse(%s): %s, which isn't right", s, shown(y))
		}
	}
	if count < 1000 {
		t.Errorf("only %d right tags", count)
	}
}

// number is a variant of its own for each number.
func number(i int) string { return fmt.Sprintf("%08d", i) }

// P1, R5: texts of any length are answered, and soon.
func TestLong(t *testing.T) {
	const count = 1 << 17
	x := api.Tag{Lang: "en"}
	for i := range count {
		x.Variants = append(x.Variants, number(i))
		x.Private = append(x.Private, "a")
	}
	x.Exts = []api.Ext{ext("u", x.Variants...), ext("t", x.Variants...)}
	s := split.Join(tag.Subtags(x)...)
	holdParsed(t, s, x)
	holdFirst(t, s, x, "")
	holdWrong(t, s+"-", misfit(len(s)+1))
	holdFirst(t, s+"-é", x, "é")
	variants := "en-" + split.Join(x.Variants...)
	holdWrong(t, variants+"-"+number(0), twice(len(variants)+1, "variant"))
	holdWrong(t, variants+"-"+number(count-1), twice(len(variants)+1, "variant"))
	holdFirst(t, variants+"-"+number(0), api.Tag{Lang: "en", Variants: x.Variants}, number(0))
	holdWrong(t, variants+"-u", short(variants+"-u"))
	long := strings.Repeat("a", 1<<20)
	holdWrong(t, long, misfit(0))
	holdWrong(t, "en-"+long, misfit(3))
	holdWrong(t, "en-u-co-"+long, misfit(8))
	holdFirst(t, "en-"+long, api.Tag{Lang: "en"}, long)
	marks := strings.Repeat("-", 1<<20)
	holdWrong(t, marks, misfit(0))
	holdFirst(t, marks, api.Tag{}, marks)
	holdFirst(t, "en-u-co-"+marks, api.Tag{Lang: "en", Exts: []api.Ext{ext("u", "co")}}, marks)
	us := "en" + strings.Repeat("-us", 1<<18)
	holdWrong(t, us, misfit(6))
	holdFirst(t, us, api.Tag{Lang: "en", Region: "us"}, us[len("en-us-"):])
	ami := "i-ami" + strings.Repeat("-x", 1<<18)
	holdWrong(t, ami, misfit(0))
	holdFirst(t, ami, api.Tag{Grand: "i-ami"}, ami[len("i-ami-"):])
}
