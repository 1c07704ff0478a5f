package rewrite_test

import (
	"fmt"
	"slices"
	"strings"
	"testing"

	"isogloss/api"
	"isogloss/data"
	"isogloss/rewrite"
	"isogloss/tag"
)

// P16.2: steps of all kinds, in order, each with its number and the tag behind it.
func TestTraceAll(t *testing.T) {
	im := with("type ca islamicc civil", "variant heploc - alalc97", "region su - - - ru", "script qaai - - zinh", "lang bb - sgn - us", "pair sgn us zh", "type co diction dict", "variant fonipa", "lang zh - aa")
	x := api.Tag{Lang: "zh", Extlang: []string{"bb", "zh"}, Script: "qaai", Variants: []string{"fonipa", "1994", "heploc"}, Exts: []api.Ext{{Key: "t", Subs: []string{"su"}}, {Key: "u", Subs: []string{"FOO", "co", "diction", "ca", "islamicc"}}}, Private: []string{"su"}}
	at := func(lang, script, region, row, u string) api.Tag {
		return api.Tag{Lang: lang, Script: script, Region: region, Variants: strings.Fields(row), Exts: []api.Ext{{Key: "t", Subs: []string{"su"}}, {Key: "u", Subs: strings.Fields(u)}}, Private: []string{"su"}}
	}
	u := "FOO co diction ca islamicc"
	holdTrace(t, im, x, []told{
		{-1, at("bb", "qaai", "", "fonipa 1994 heploc", u)},
		{4, at("sgn", "qaai", "us", "fonipa 1994 heploc", u)},
		{5, at("zh", "qaai", "", "fonipa 1994 heploc", u)},
		{8, at("aa", "qaai", "", "fonipa 1994 heploc", u)},
		{3, at("aa", "zinh", "", "fonipa 1994 heploc", u)},
		{7, at("aa", "zinh", "", "1994 heploc", u)},
		{1, at("aa", "zinh", "", "1994 alalc97", u)},
		{6, at("aa", "zinh", "", "1994 alalc97", "foo co dict ca islamicc")},
		{0, at("aa", "zinh", "", "1994 alalc97", "foo co dict ca civil")},
	})
	hold(t, im, x)
}

// P16.2: what is called otherwise may be a grandfathered tag only then.
func TestTraceWhole(t *testing.T) {
	im := with("grand 22 - hak - tw", "lang xx - zh", "region tw - - - cn", "grand 03 - ami")
	holdTrace(t, im, of("xx-hakka"), []told{{1, api.Tag{Lang: "zh", Variants: []string{"hakka"}}}, {-2, api.Tag{Grand: "zh-hakka"}}, {0, of("hak-tw")}, {2, of("hak-cn")}})
	holdTrace(t, im, api.Tag{Lang: "xx", Variants: []string{"HAKKA"}}, []told{{1, api.Tag{Lang: "zh", Variants: []string{"HAKKA"}}}, {-2, api.Tag{Grand: "zh-hakka"}}, {0, of("hak-tw")}, {2, of("hak-cn")}})
	// An extlang becomes the language, and that one a grandfathered tag's beginning.
	holdTrace(t, im, api.Tag{Lang: "zh", Extlang: []string{"xx", "zh"}, Variants: []string{"hakka"}}, []told{{-1, of("xx-hakka")}, {1, api.Tag{Lang: "zh", Variants: []string{"hakka"}}}, {-2, api.Tag{Grand: "zh-hakka"}}, {0, of("hak-tw")}, {2, of("hak-cn")}})
	holdTrace(t, im, api.Tag{Lang: "i", Variants: []string{"ami"}}, []told{{-2, api.Tag{Grand: "i-ami"}}, {3, of("ami")}})
	// As a Grand it is not looked at once more.
	holdTrace(t, im, of("zh-hakka"), []told{{0, of("hak-tw")}, {2, of("hak-cn")}})
	holdTrace(t, api.Image{}, of("zh-hakka"), nil)
	// A variant that goes, or is another one, leaves a grandfathered tag, too.
	holdTrace(t, with("variant fonipa"), api.Tag{Lang: "zh", Variants: []string{"fonipa", "hakka"}}, []told{{0, api.Tag{Lang: "zh", Variants: []string{"hakka"}}}, {-2, api.Tag{Grand: "zh-hakka"}}})
	holdTrace(t, with("variant fonipa - hakka"), of("zh-fonipa"), []told{{0, api.Tag{Lang: "zh", Variants: []string{"hakka"}}}, {-2, api.Tag{Grand: "zh-hakka"}}})
	holdTrace(t, with("pair zh tw no", "variant fonipa - nyn"), of("zh-tw-fonipa"), []told{{0, of("no-fonipa")}, {1, api.Tag{Lang: "no", Variants: []string{"nyn"}}}, {-2, api.Tag{Grand: "no-nyn"}}})
}

// circled are steps that go round in a circle, cut off where Trace is to end.
func circled(x api.Tag, circle ...told) []told {
	var all []told
	for len(all) < mostAgain(x) {
		all = append(all, circle[len(all)%len(circle)])
	}
	return all
}

// P16.2: of aliases that lead round in a circle there are 10 steps, and as many as the tag has subtags.
func TestTraceCircle(t *testing.T) {
	two := with("lang aa - bb", "lang bb - aa")
	for _, rest := range []string{"", "-latn", "-latn-us", "-latn-us-1994", "-u-ca-buddhist", "-1994-fonipa-a-bb-x-c-d", "-x-c"} {
		x, y := of("aa"+rest), of("bb"+rest)
		want := circled(x, told{0, y}, told{1, x})
		if len(want) != 11+strings.Count(rest, "-") {
			t.Fatal(len(want))
		}
		holdTrace(t, two, x, want)
		holdTrace(t, two, y, circled(y, told{1, x}, told{0, y}))
		holdTrace(t, with("region zz - - - zz", "lang aa - aa"), x, circled(x, told{1, x}))
	}
	// An empty tag has no subtag, one with a Grand the pieces of that.
	holdTrace(t, with("lang"), api.Tag{}, slices.Repeat([]told{{0, api.Tag{}}}, 10))
	for _, x := range []api.Tag{of("zh-min-nan"), {Grand: "zh-min-nan", Variants: []string{"a", "b", "c", "d", "e"}}} {
		im := two
		im.Aliases = append(im.Aliases[:2:2], alias("grand 24 - aa"))
		holdTrace(t, im, x, append([]told{{2, of("aa")}}, slices.Repeat([]told{{0, of("bb")}, {1, of("aa")}}, 6)...))
	}
	// A tag that is called otherwise by a grandfathered one, and that by it.
	im := with("grand 24 - zh", "variant nan - min", "lang zh - no", "lang no - zh")
	hold(t, im, of("zh-min-nan"))
	hold(t, im, api.Tag{Lang: "no", Variants: []string{"min", "nan"}})
	// As many as it has itself, not one of those that are told: here it is 13, then 11.
	holdTrace(t, with("lang aa - aa", "grand 24 - aa"), of("zh-min-nan"), append([]told{{1, of("aa")}}, slices.Repeat([]told{{0, of("aa")}}, 12)...))
	holdTrace(t, with("lang aa - aa bbbb cc"), of("aa"), slices.Repeat([]told{{0, of("aa-bbbb-cc")}}, 11))
	// Types and variants that go round.
	hold(t, with("type ca aaa bbb", "type ca bbb aaa"), of("en-u-ca-aaa"))
	hold(t, with("variant aaaaa - bbbbb", "variant bbbbb - aaaaa"), of("en-aaaaa"))
	hold(t, with("variant aaaaa - bbbbb", "variant bbbbb - aaaaa"), of("en-aaaaa-bbbbb"))
	hold(t, with("script aaaa - - bbbb", "script bbbb - - aaaa", "region aa - - - bb", "region bb - - - aa"), of("en-aaaa-bb"))
}

// P16.2: there may be a step behind the last one that is told, or none.
func TestTraceMost(t *testing.T) {
	name := func(i int) string { return fmt.Sprintf("a%c", 'a'+i) }
	for count := 8; count < 16; count++ {
		var im api.Image
		for i := range count {
			im.Aliases = append(im.Aliases, api.Alias{Kind: 3, A: name(i), L: name(i + 1)})
		}
		for more, rest := range []string{"", "-latn", "-latn-us"} {
			x := of("aa" + rest)
			var want []told
			for i := range min(count, 11+more) {
				want = append(want, told{i, of(name(i+1) + rest)})
			}
			holdTrace(t, im, x, want)
			last := x
			if len(want) > 0 {
				last = want[len(want)-1].next
			}
			if done := rewrite.Done(im, last); done != (count <= 11+more) {
				t.Errorf("%d aliases, %s: Done %v", count, said(last), done)
			}
		}
	}
	// Each extlang, key and variant counts, each text of a row, and the `x` ahead of what is private.
	x := api.Tag{Lang: "zh", Extlang: []string{"aa", "bb"}, Script: "latn", Region: "us", Variants: []string{"1994", ""}, Exts: []api.Ext{{Key: "", Subs: []string{"", ""}}, {Key: "u"}}, Private: []string{"", "a"}}
	number := 0
	for range rewrite.Trace(with("lang aa - aa"), x) {
		number++
	}
	if number != 10+14 {
		t.Error(number)
	}
	hold(t, with("lang aa - aa"), x)
}

// P16.2, R1: it may be left off anywhere, gone over again, and gone over within itself.
func TestTraceAgain(t *testing.T) {
	im, x := data.Image(), of("sh-dd-heploc-polytoni-u-ca-islamicc-co-diction-kb-yes-ms-imperial")
	want := traceAgain(im, x)
	if len(want) != 8 {
		t.Fatal(said(want))
	}
	holdTrace(t, im, x, want)
	steps := rewrite.Trace(im, x)
	outer := 0
	for number, next := range steps {
		inner := 0
		for n, y := range steps {
			if n != want[inner].number || !tag.Same(y, want[inner].next) {
				t.Fatalf("%d within %d: %d, %s", inner, outer, n, said(y))
			}
			if inner++; inner > outer {
				break
			}
		}
		if number != want[outer].number || !tag.Same(next, want[outer].next) {
			t.Fatalf("%d: %d, %s", outer, number, said(next))
		}
		outer++
	}
	if outer != len(want) {
		t.Error(outer)
	}
	// Nothing is told any more, once it was left off.
	stopped := 0
	steps(func(int, api.Tag) bool { stopped++; return stopped < 3 })
	if stopped != 3 {
		t.Error(stopped)
	}
}

// R3: what is told hangs on what was handed in, also where that is changed behind the call.
func TestTraceKept(t *testing.T) {
	im, x := data.Image(), of("sh-dd-heploc-polytoni-u-ca-islamicc-co-diction-kb-yes-ms-imperial")
	want := traceAgain(im, x)
	steps := rewrite.Trace(im, x)
	for range 2 {
		at := 0
		for number, next := range steps {
			if number != want[at].number || !tag.Same(next, want[at].next) {
				t.Fatalf("%d: %d, %s", at, number, said(next))
			}
			clear(im.Aliases)
			spoil(x)
			at++
		}
		if at != len(want) {
			t.Error(at)
		}
	}
}

// P16.1, P16.2: Step, Done and Trace agree; each step is the first one of the tag behind the one ahead of it.
func TestTraceAgrees(t *testing.T) {
	im := data.Image()
	texts := []string{"en", "iw-fonipa-1994-u-co-true-ca-islamicc", "sh-yu", "sgn-us", "sgn-su", "sgn-840", "no-bu-heploc-alalc97", "zh-yue", "zh-cmn-qaai-fx", "sgn-sgn-gb-polytoni", "x-a", "mo-polyton-polytoni-heploc-a-bb-u-ms-imperial-ca-islamicc-x-u-ca-islamicc", "cnr", "cnr-yu", "cnr-cyrl-me"}
	for _, s := range append(texts, strings.Fields(names)...) {
		x := of(s)
		hold(t, im, x)
		now, count := x, 0
		for number, next := range rewrite.Trace(im, x) {
			got, n, found := rewrite.Step(im, now)
			if !found || n != number || !tag.Same(got, next) || rewrite.Done(im, now) {
				t.Errorf("%s: %d, %s", s, number, said(next))
			}
			now = next
			count++
		}
		if !rewrite.Done(im, now) || (count == 0) != rewrite.Done(im, x) {
			t.Errorf("%s: %d, %s", s, count, said(now))
		}
	}
}

// P1: tags with many subtags have many steps.
func TestTraceMany(t *testing.T) {
	const many = 1000
	var im api.Image
	var x api.Tag
	for i := range many {
		x.Variants = append(x.Variants, fmt.Sprintf("v%04d", i))
		im.Aliases = append(im.Aliases, api.Alias{Kind: 6, A: fmt.Sprintf("v%04d", many-1-i)})
	}
	at := 0
	for number, next := range rewrite.Trace(im, x) {
		if number != many-1-at || !slices.Equal(next.Variants, x.Variants[at+1:]) {
			t.Fatal(at, number, len(next.Variants))
		}
		at++
	}
	if at != many {
		t.Error(at)
	}
}
