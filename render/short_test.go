package render_test

import (
	"math"
	"slices"
	"strings"
	"testing"

	"isogloss/api"
	"isogloss/render"
	"isogloss/tag"
)

// shortOf is as many pieces of a tag's text as fit, as the promise's words say.
func shortOf(x api.Tag, n int) string {
	pieces := strings.Split(strings.Join(tag.Subtags(x), "-"), "-")
	fit := 0
	for k := range pieces {
		if len(strings.Join(pieces[:k+1], "-")) <= n {
			fit = k + 1
		}
	}
	for fit > 1 && len(pieces[fit-1]) == 1 {
		fit--
	}
	return casedOf(strings.Join(pieces[:fit], "-"))
}

// holdShort holds what is told of a tag, and so many bytes, against that, and that the tag stays as it was.
func holdShort(t *testing.T, x api.Tag, n int, want string) {
	t.Helper()
	before := shown(x)
	for range 2 {
		if got := render.Short(x, n); got != want {
			t.Errorf("Short(%s, %d): %.200q, want %.200q", before, n, got, want)
		}
	}
	if after := shown(x); after != before {
		t.Errorf("%s was changed to %s", before, after)
	}
}

// spans are the numbers up to which one text is told, and that one.
type spans []struct {
	most int
	want string
}

// P8.1: as much as fits, from far below nothing to far above all.
func TestShort(t *testing.T) {
	for _, c := range []struct {
		tag  api.Tag
		told spans
	}{
		{api.Tag{Lang: "en"}, spans{{1, ""}, {9, "en"}}},
		{api.Tag{Lang: "abcdefgh"}, spans{{7, ""}, {12, "abcdefgh"}}},
		{api.Tag{Lang: "en", Region: "us"}, spans{{1, ""}, {4, "en"}, {9, "en-US"}}},
		{api.Tag{Lang: "zh", Extlang: []string{"yue"}, Script: "hant", Region: "hk"}, spans{{1, ""}, {5, "zh"}, {10, "zh-yue"}, {13, "zh-yue-Hant"}, {20, "zh-yue-Hant-HK"}}},
		{api.Tag{Lang: "de", Variants: []string{"1901", "scouse"}}, spans{{1, ""}, {6, "de"}, {13, "de-1901"}, {20, "de-1901-scouse"}}},
		// The last that fit have one byte.
		{api.Tag{Lang: "en", Region: "us", Exts: []api.Ext{ext("u", "us", "latn")}}, spans{{1, ""}, {4, "en"}, {9, "en-US"}, {14, "en-US-u-us"}, {20, "en-US-u-us-latn"}}},
		{api.Tag{Lang: "en", Exts: []api.Ext{ext("u", "co"), ext("t", "en")}, Private: []string{"us"}}, spans{{1, ""}, {6, "en"}, {11, "en-u-co"}, {16, "en-u-co-t-en"}, {30, "en-u-co-t-en-x-us"}}},
		{api.Tag{Lang: "en", Private: []string{"a", "b", "c", "us"}}, spans{{1, ""}, {12, "en"}, {20, "en-x-a-b-c-us"}}},
		{api.Tag{Lang: "en", Private: []string{"us", "a", "b"}}, spans{{1, ""}, {6, "en"}, {30, "en-x-us"}}},
		{api.Tag{Lang: "en", Private: []string{"a"}}, spans{{1, ""}, {30, "en"}}},
		// The first of all stays, also where it has one byte.
		{api.Tag{Private: []string{"us", "latn"}}, spans{{0, ""}, {3, "x"}, {8, "x-us"}, {20, "x-us-latn"}}},
		{api.Tag{Private: []string{"a", "us"}}, spans{{0, ""}, {5, "x"}, {20, "x-a-us"}}},
		{api.Tag{Private: []string{"a", "b", "c"}}, spans{{0, ""}, {20, "x"}}},
		{api.Tag{Private: []string{"us", "a"}}, spans{{0, ""}, {3, "x"}, {20, "x-us"}}},
		{api.Tag{Grand: "i-klingon"}, spans{{0, ""}, {8, "i"}, {20, "i-klingon"}}},
		{api.Tag{Grand: "sgn-be-fr"}, spans{{2, ""}, {5, "sgn"}, {8, "sgn-BE"}, {20, "sgn-BE-FR"}}},
		{api.Tag{Grand: "en-gb-oed"}, spans{{1, ""}, {4, "en"}, {8, "en-GB"}, {20, "en-GB-oed"}}},
		// Tags that are not right: nothing at all, great letters, empty pieces, texts of some pieces, other bytes.
		{api.Tag{}, spans{{9, ""}}},
		{api.Tag{Lang: "A"}, spans{{0, ""}, {9, "a"}}},
		{api.Tag{Lang: "EN", Script: "LATN", Region: "us"}, spans{{1, ""}, {6, "en"}, {9, "en-Latn"}, {20, "en-Latn-US"}}},
		{api.Tag{Lang: "en", Variants: []string{"", "us"}}, spans{{1, ""}, {2, "en"}, {5, "en-"}, {9, "en--US"}}},
		{api.Tag{Variants: []string{"", "", "us"}}, spans{{0, ""}, {3, "-"}, {9, "--US"}}},
		{api.Tag{Variants: []string{"", "a", "us"}}, spans{{4, ""}, {9, "-a-us"}}},
		{api.Tag{Lang: "en", Variants: []string{"", "a"}}, spans{{1, ""}, {2, "en"}, {9, "en-"}}},
		{api.Tag{Lang: "en", Variants: []string{"a", ""}}, spans{{1, ""}, {4, "en"}, {9, "en-a-"}}},
		{api.Tag{Lang: "en-us", Region: "a-us"}, spans{{1, ""}, {4, "en"}, {9, "en-US"}, {20, "en-US-a-us"}}},
		{api.Tag{Lang: "en", Region: "é", Variants: []string{"\xff", "us"}}, spans{{1, ""}, {4, "en"}, {9, "en-é"}, {20, "en-é-\xff-us"}}},
	} {
		from := -3
		for _, span := range c.told {
			for n := from; n <= span.most; n++ {
				holdShort(t, c.tag, n, span.want)
			}
			from = span.most + 1
		}
		all := c.told[len(c.told)-1].want
		for _, n := range []int{from, 100, math.MaxInt32, 1 << 32, math.MaxInt - 1, math.MaxInt} {
			holdShort(t, c.tag, n, all)
		}
		for _, n := range []int{math.MinInt, math.MinInt + 1, math.MinInt32, -100} {
			holdShort(t, c.tag, n, "")
		}
	}
}

// P8.1: tags of all makes, and all sizes of what is told.
func TestShortOfAll(t *testing.T) {
	for _, c := range slices.Concat(rightSamples(), wrongSamples()) {
		for n := -2; n <= len(c.lower)+3; n++ {
			holdShort(t, c.tag, n, shortOf(c.tag, n))
		}
	}
	for _, s := range rows([]string{"", "a", "X", "us", "Yue", "latn", "é"}, 4) {
		x := api.Tag{Grand: s}
		for n := -1; n <= len(s)+1; n++ {
			holdShort(t, x, n, shortOf(x, n))
		}
	}
}

// P8.2: what is told in short has its cases, and fits.
func TestShortCases(t *testing.T) {
	for _, x := range makes() {
		all := render.String(x)
		for n := range len(all) + 2 {
			s := render.Short(x, n)
			if len(s) > n || !strings.HasPrefix(all, s) || render.Case(s) != s {
				t.Errorf("Short(%s, %d): %q", shown(x), n, s)
			}
		}
	}
}

// P1, R5: long tags are told in short, and soon.
func TestShortOfLong(t *testing.T) {
	const count = 1 << 18
	x := api.Tag{Lang: "en", Variants: slices.Repeat([]string{"scouse"}, count)}
	all := "en" + strings.Repeat("-scouse", count)
	for n, want := range map[int]string{1: "", 8: "en", 9: "en-scouse", len(all) - 1: all[:len(all)-7], len(all): all, math.MaxInt: all} {
		holdShort(t, x, n, want)
	}
	x = api.Tag{Private: slices.Repeat([]string{"a"}, count)}
	for _, n := range []int{1, 2, 3, count, 2*count + 1, math.MaxInt} {
		holdShort(t, x, n, "x")
	}
	holdShort(t, api.Tag{Lang: strings.Repeat("a", count)}, count-1, "")
	holdShort(t, api.Tag{Lang: strings.Repeat("a", count)}, count, strings.Repeat("a", count))
}
