package rewrite_test

import (
	"fmt"
	"strings"
	"testing"

	"isogloss/api"
	"isogloss/data"
	"isogloss/rewrite"
	"isogloss/tag"
)

// one holds the only step of a tag by an image of one alias.
func one(t *testing.T, a string, x, want api.Tag) {
	t.Helper()
	holdStep(t, with(a), x, want, 0, true)
	// Its number is its place, and aliases that don't fit play no part.
	other := with("grand 99 - zz", "pair zz zz yy", "lang zz - yy", "script zzzz - - yyyy", "region zz - - - yy", "variant zzzzz - yyyyy", "type zz zzz yyy")
	other.Aliases = append(other.Aliases, alias(a), alias(a))
	holdStep(t, other, x, want, 7, true)
	hold(t, other, x)
}

// P16.1: the chapter's examples, by the image that is handed out.
func TestStepExamples(t *testing.T) {
	im := data.Image()
	holdStep(t, im, of("sgn-US"), api.Tag{Lang: "ase"}, 20, true)
	holdStep(t, im, of("zh-min-nan"), api.Tag{Lang: "nan"}, 15, true)
	holdTrace(t, im, of("sgn-US"), []told{{20, api.Tag{Lang: "ase"}}})
	holdTrace(t, im, of("zh-min-nan"), []told{{15, api.Tag{Lang: "nan"}}})
	holdDone(t, im, of("ase"))
	holdDone(t, im, of("nan"))
}

// P16.1: a tag whose text is a grandfathered one, whichever, however its fields lie, in whatever cases.
func TestStepWhole(t *testing.T) {
	for _, name := range strings.Fields(names) {
		p := strings.Split(name, "-")
		want := api.Tag{Grand: name}
		for _, x := range []api.Tag{
			{Lang: p[0], Variants: p[1:]}, {Lang: p[0], Extlang: p[1:]}, {Lang: p[0], Private: nil, Exts: []api.Ext{{Key: p[1], Subs: p[2:]}}}, {Lang: name}, {Script: name}, {Region: p[0], Variants: p[1:]}, {Variants: p}, {Extlang: p}, {Exts: []api.Ext{{Key: p[0], Subs: p[1:]}}},
			{Lang: strings.ToUpper(p[0]), Variants: p[1:]}, {Lang: p[0], Variants: strings.Split(strings.ToUpper(name), "-")[1:]}, {Lang: strings.ToUpper(name)}, {Lang: strings.ToUpper(name[:1]) + name[1:]},
		} {
			holdStep(t, api.Image{}, x, want, -2, true)
			hold(t, data.Image(), x)
			// It is ahead of all else.
			holdStep(t, with("lang "+p[0]+" - xx", "region "+p[1]+" - - - yy", "variant "+p[1]+" - zzzzz"), x, want, -2, true)
			// What is not empty beside it makes another text.
			x.Private = []string{"a"}
			if len(x.Extlang) == 0 {
				holdDone(t, api.Image{}, x)
			}
			x.Private, x.Grand = nil, "i-none"
			if len(x.Extlang) == 0 {
				holdDone(t, api.Image{}, x)
			}
			x.Grand = name
			if len(x.Extlang) == 0 {
				holdDone(t, api.Image{}, x)
			}
		}
		// A tag with a Grand is not looked at once more; its text is that alone.
		holdDone(t, api.Image{}, want)
		holdDone(t, api.Image{}, api.Tag{Grand: strings.ToUpper(name)})
		holdDone(t, with("lang "+p[0]+" - xx"), want)
		for _, x := range []api.Tag{{Lang: name + "-"}, {Lang: "-" + name}, {Lang: name[1:]}, {Lang: name + "x"}, {Lang: p[0]}, {Lang: "x", Variants: p}, {Variants: append(p, "")}, {Private: p}, {Lang: strings.Replace(name, "-", "_", 1)}} {
			if !strings.HasPrefix(name, "zh-min-") || x.Lang != p[0] {
				holdDone(t, api.Image{}, x)
			}
		}
	}
	// A shorter one within a longer one is none; `ı` and `K` (one of three bytes) are no letters of theirs.
	holdDone(t, api.Image{}, api.Tag{Lang: "zh", Variants: []string{"min", "na"}})
	holdDone(t, api.Image{}, api.Tag{Lang: "ı", Variants: []string{"ami"}})
	holdDone(t, api.Image{}, api.Tag{Lang: "i", Variants: []string{"\u212alingon"}})
	holdDone(t, api.Image{}, api.Tag{Variants: []string{""}})
}

// P16.1: what else stands in a tag goes, where its text is none of those that are told.
func TestStepWholeRest(t *testing.T) {
	// Empty rows are told by no subtags, whatever they are.
	holdStep(t, api.Image{}, api.Tag{Lang: "zh", Extlang: []string{}, Variants: []string{"xiang"}, Exts: []api.Ext{}, Private: []string{}}, api.Tag{Grand: "zh-xiang"}, -2, true)
	// It is ahead of extlangs.
	holdStep(t, api.Image{}, api.Tag{Lang: "zh", Extlang: []string{"min", "nan"}}, api.Tag{Grand: "zh-min-nan"}, -2, true)
	holdStep(t, with("lang zh - cmn", "grand 23 - xx"), api.Tag{Lang: "ZH", Extlang: []string{"MIN"}}, api.Tag{Grand: "zh-min"}, -2, true)
}

// P16.1: of extlangs the first is taken, and all go.
func TestStepExtlang(t *testing.T) {
	rest := api.Tag{Script: "latn", Region: "us", Variants: []string{"1994"}, Exts: []api.Ext{{Key: "u", Subs: []string{"ca"}}}, Private: []string{"a"}}
	for _, row := range [][]string{{"yue"}, {"yue", "cmn"}, {"yue", "cmn", "gan"}, {"yue", "yue"}, {"", "cmn"}, {"YUE"}, {"no extlang", "a", "b", "c", "d"}} {
		for _, lang := range []string{"zh", "", row[0]} {
			x, want := tag.Clone(rest), tag.Clone(rest)
			x.Lang, x.Extlang, want.Lang = lang, row, row[0]
			holdStep(t, api.Image{}, x, want, -1, true)
			// It is ahead of all aliases.
			holdStep(t, with("lang "+cmpOr(row[0])+" - xx", "lang zh - xx", "region us - - - ru", "script latn - - cyrl", "variant 1994 - 1996"), x, want, -1, true)
			hold(t, api.Image{}, x)
		}
	}
	// Extlangs that may not be, beside a Grand, are so, too: that stays.
	holdStep(t, with("grand 07 - hak"), api.Tag{Grand: "i-hak", Extlang: []string{"aaa"}}, api.Tag{Grand: "i-hak", Lang: "aaa"}, -1, true)
	holdDone(t, api.Image{}, api.Tag{Lang: "zh", Extlang: []string{}})
}

// cmpOr is a text, or `-` for an empty one.
func cmpOr(s string) string {
	if s == "" {
		return "-"
	}
	return s
}

// P16.1: a Grand with an alias becomes just what that leads to.
func TestStepGrand(t *testing.T) {
	for i, name := range strings.Fields(names) {
		a := fmt.Sprintf("grand %02d - ", i)
		for _, x := range []api.Tag{{Grand: name}, {Grand: strings.ToUpper(name)}, {Grand: name, Lang: "aa", Script: "bbbb", Region: "cc", Variants: []string{"ddddd"}, Exts: []api.Ext{{Key: "u", Subs: []string{"ee"}}}, Private: []string{"f"}}} {
			one(t, a+"hak", x, api.Tag{Lang: "hak"})
			one(t, a+"hak hant", x, api.Tag{Lang: "hak", Script: "hant"})
			one(t, a+"hak - tw", x, api.Tag{Lang: "hak", Region: "tw"})
			one(t, a+"hak hant tw", x, api.Tag{Lang: "hak", Script: "hant", Region: "tw"})
			one(t, a+"- hant tw", x, api.Tag{Script: "hant", Region: "tw"})
			one(t, a, x, api.Tag{})
			one(t, fmt.Sprintf("grand %02d xx hak", i), x, api.Tag{Lang: "hak"})
		}
		for _, number := range []string{fmt.Sprintf("%02d", (i+1)%26), fmt.Sprintf("%03d", i), fmt.Sprintf("%d ", i), fmt.Sprintf("%d", i+100), fmt.Sprintf("%02d0", i), name, "", "26", "99", "-1", "no number", "0x", "٠٠"} {
			holdDone(t, api.Image{Aliases: []api.Alias{{Kind: 1, A: number, L: "xx"}}}, api.Tag{Grand: name})
		}
		if i < 10 {
			holdDone(t, with(fmt.Sprintf("grand %d - xx", i)), api.Tag{Grand: name})
		}
		// Aliases of other kinds with its number, or its text, are none of a Grand.
		for kind := range kindWords {
			if kind != "grand" {
				holdDone(t, with(fmt.Sprintf("%s %02d zz yy", kind, i), fmt.Sprintf("%s %s zz yy", kind, name)), api.Tag{Grand: name})
			}
		}
	}
	// What is no grandfathered tag has no number.
	for _, name := range []string{"", "en", "i-", "art-lojba", "art-lojbanx", "art-lojban-", "00", "zh-min-na", "\xff", strings.Repeat("i-ami-", 1<<16)} {
		holdDone(t, with("grand 00 - xx", "grand - - xx"), api.Tag{Grand: name})
	}
	holdStep(t, with("grand 00 - aa", "grand 07 - bb", "grand 07 - cc"), api.Tag{Grand: "i-hak"}, api.Tag{Lang: "bb"}, 1, true)
}

// full is a tag with something in each of its fields but Extlang and Grand.
func full() api.Tag {
	return api.Tag{Lang: "sgn", Script: "latn", Region: "us", Variants: []string{"1994", "fonipa"}, Exts: []api.Ext{{Key: "t", Subs: []string{"en"}}, {Key: "u", Subs: []string{"foo", "ca", "buddhist"}}}, Private: []string{"a", "b"}}
}

// changed is a tag with another Lang, Script and Region.
func changed(x api.Tag, l, s, r string) api.Tag {
	x.Lang, x.Script, x.Region = l, s, r
	return x
}

// P16.1: pairs of a language and a region.
func TestStepPair(t *testing.T) {
	one(t, "pair sgn us ase", of("sgn-us"), of("ase"))
	one(t, "pair sgn us ase", full(), changed(full(), "ase", "latn", ""))
	// What is not L is not looked at.
	one(t, "pair sgn us ase cyrl ru", full(), changed(full(), "ase", "latn", ""))
	one(t, "pair sgn us ase cyrl ru", of("sgn-us"), of("ase"))
	one(t, "pair sgn us - - ru", full(), changed(full(), "", "latn", ""))
	one(t, "pair sgn us sgn", of("sgn-us"), of("sgn"))
	// Its B is the Region, also where that is empty.
	one(t, "pair sgn - ase", of("sgn"), of("ase"))
	one(t, "pair - us ase", api.Tag{Region: "us"}, of("ase"))
	for _, s := range []string{"pair sgn br bzs", "pair ase us sgn", "pair sgn - bzs", "pair - us bzs", "pair us sgn bzs", "pair SGN us bzs", "pair sgn US bzs", "pair sg nus bzs", "pair sgnu s bzs", "pair latn us bzs"} {
		holdDone(t, with(s), of("sgn-us"))
		holdDone(t, with(s), full())
	}
	holdDone(t, with("pair sgn us ase"), of("sgn"))
	holdDone(t, with("pair sgn us ase"), of("sgn-br"))
	holdDone(t, with("pair sgn us ase"), of("en-us"))
	holdDone(t, with("pair sgn us ase"), api.Tag{Lang: "SGN", Region: "us"})
	holdDone(t, with("pair sgn us ase"), api.Tag{Lang: "sgn", Region: "US"})
	// The first of several; ahead of the language by itself.
	holdStep(t, with("pair sgn br bzs", "pair sgn us ase", "pair sgn us bfi"), of("sgn-us"), of("ase"), 1, true)
	holdStep(t, with("lang sgn - xx", "pair sgn us ase"), of("sgn-us"), of("ase"), 1, true)
	holdStep(t, with("lang sgn - xx", "pair sgn us ase"), of("sgn-br"), of("xx-br"), 0, true)
	holdStep(t, with("region us - - - ru", "lang sgn - xx", "pair sgn us ase"), of("sgn-latn-us"), of("ase-latn"), 2, true)
}

// P16.1: languages; S and R are taken where there is nothing.
func TestStepLang(t *testing.T) {
	one(t, "lang iw - he", of("iw"), of("he"))
	one(t, "lang sgn - he", full(), changed(full(), "he", "latn", "us"))
	one(t, "lang sgn xx he", full(), changed(full(), "he", "latn", "us"))
	for _, x := range []struct{ tag, none, script, region, both string }{
		{"aa", "bb", "bb-cyrl", "bb-ru", "bb-cyrl-ru"},
		{"aa-latn", "bb-latn", "bb-latn", "bb-latn-ru", "bb-latn-ru"},
		{"aa-us", "bb-us", "bb-cyrl-us", "bb-us", "bb-cyrl-us"},
		{"aa-latn-us", "bb-latn-us", "bb-latn-us", "bb-latn-us", "bb-latn-us"},
		{"aa-1994-x-aa", "bb-1994-x-aa", "bb-cyrl-1994-x-aa", "bb-ru-1994-x-aa", "bb-cyrl-ru-1994-x-aa"},
		{"aa-latn-u-ca-aa", "bb-latn-u-ca-aa", "bb-latn-u-ca-aa", "bb-latn-ru-u-ca-aa", "bb-latn-ru-u-ca-aa"},
	} {
		one(t, "lang aa - bb", of(x.tag), of(x.none))
		one(t, "lang aa - bb cyrl", of(x.tag), of(x.script))
		one(t, "lang aa - bb - ru", of(x.tag), of(x.region))
		one(t, "lang aa - bb cyrl ru", of(x.tag), of(x.both))
	}
	one(t, "lang aa - -", of("aa-latn-us"), api.Tag{Script: "latn", Region: "us"})
	one(t, "lang aa - aa latn", of("aa"), of("aa-latn"))
	one(t, "lang - - aa", api.Tag{Region: "us"}, of("aa-us"))
	one(t, "lang - - aa bbbb cc", api.Tag{}, of("aa-bbbb-cc"))
	for _, s := range []string{"lang IW - he", "lang i - he", "lang iwx - he", "lang - - he", "lang he - iw", "script iw - - he", "region iw - - - he", "variant iw - he", "type iw - he", "grand iw - he", "pair iw il he"} {
		holdDone(t, with(s), of("iw"))
	}
	holdDone(t, with("lang iw - he"), api.Tag{Lang: "IW"})
	holdDone(t, with("lang iw - he"), api.Tag{Lang: "aa", Script: "iw", Region: "iw", Variants: []string{"iw"}, Exts: []api.Ext{{Key: "iw", Subs: []string{"iw"}}}, Private: []string{"iw"}, Grand: "iw"})
	holdStep(t, with("lang bb - cc", "lang aa - dd", "lang aa - ee"), of("aa"), of("dd"), 1, true)
}

// P16.1: scripts, and regions.
func TestStepScriptRegion(t *testing.T) {
	one(t, "script qaai - - zinh", of("en-qaai-us-x-a"), of("en-zinh-us-x-a"))
	one(t, "script latn - - zinh", full(), changed(full(), "sgn", "zinh", "us"))
	one(t, "script latn bb xx zinh rr", full(), changed(full(), "sgn", "zinh", "us"))
	one(t, "script latn - - -", full(), changed(full(), "sgn", "", "us"))
	one(t, "script - - - latn", of("en-us"), of("en-latn-us"))
	one(t, "region su - - - ru", of("en-latn-su-1994"), of("en-latn-ru-1994"))
	one(t, "region us - - - ru", full(), changed(full(), "sgn", "latn", "ru"))
	one(t, "region us bb xx zinh rr", full(), changed(full(), "sgn", "latn", "rr"))
	one(t, "region us - - - -", full(), changed(full(), "sgn", "latn", ""))
	one(t, "region - - - - us", of("en-latn"), of("en-latn-us"))
	for _, s := range []string{"script LATN - - zinh", "script lat - - zinh", "script latnx - - zinh", "script zinh - - latn", "script - - - zinh", "lang latn - zinh", "region latn - - - zz", "script us - - zinh", "region US - - - ru", "region u - - - ru", "region - - - - ru", "region ru - - - us", "lang us - xx", "variant us - xx", "variant latn - xx", "type us - xx", "pair us - xx", "pair - us xx", "grand us - xx"} {
		holdDone(t, with(s), of("en-latn-us"))
	}
	holdDone(t, with("script latn - - zinh", "region us - - - ru"), api.Tag{Lang: "en", Script: "Latn", Region: "US"})
	holdStep(t, with("script aaaa - - bbbb", "script latn - - cccc", "script latn - - dddd"), of("en-latn"), of("en-cccc"), 1, true)
	holdStep(t, with("region aa - - - bb", "region us - - - cc", "region us - - - dd"), of("en-us"), of("en-cc"), 1, true)
}

// P16.1: kinds that are none, or that are only nearly one.
func TestStepKinds(t *testing.T) {
	x := api.Tag{Lang: "aa", Script: "aa", Region: "aa", Variants: []string{"aa"}, Exts: []api.Ext{{Key: "u", Subs: []string{"aa", "aaa"}}}}
	for _, kind := range []int{0, 8, -1, -2, -3, -7, 9, 255, 256, 257, 259, 263, 1<<32 + 3, -1 << 63, 1<<63 - 1} {
		var im api.Image
		for _, a := range []string{"aa", "", "00", "aaa"} {
			for _, b := range []string{"", "aa", "aaa"} {
				im.Aliases = append(im.Aliases, api.Alias{Kind: kind, A: a, B: b, L: "xx", S: "xx", R: "xx"})
			}
		}
		holdDone(t, im, x)
		holdDone(t, im, api.Tag{})
		holdDone(t, im, api.Tag{Grand: "art-lojban"})
		im.Aliases = append(im.Aliases, alias("lang aa - bb"))
		want := tag.Clone(x)
		want.Lang = "bb"
		holdStep(t, im, x, want, 12, true)
	}
}

// P16.1: no alias that fits.
func TestStepNone(t *testing.T) {
	for _, im := range []api.Image{{}, {Aliases: []api.Alias{}}, with("lang zz - yy"), {Threshold: 40, Demote: 5, Members: []api.Member{{Set: "aa", Region: "bb"}}, Likely: []api.Likely{{L: "sgn", ToL: "aa"}}}} {
		for _, x := range []api.Tag{{}, full(), of("en"), of("x-a"), of("i-default"), {Lang: "no language"}, {Variants: []string{"", ""}}, {Exts: []api.Ext{{}, {Key: "u"}}}, {Private: []string{""}}, {Lang: "\xff\x00", Grand: "-"}, {Variants: []string{}, Extlang: []string{}}, {Lang: strings.Repeat("a", 1<<20)}} {
			holdDone(t, im, x)
			holdTrace(t, im, x, nil)
		}
	}
	got, _, _ := rewrite.Step(api.Image{}, full())
	if !tag.Same(got, full()) {
		t.Error(said(got))
	}
}

// P16.1: of several kinds the least, in whatever order they stand.
func TestStepLeast(t *testing.T) {
	im := with("type ca buddhist xxx", "variant 1994 - 1996", "region us - - - ru", "script latn - - cyrl", "lang sgn - xx", "pair sgn us ase")
	x := full()
	for last := len(im.Aliases); last > 0; last-- {
		cut := api.Image{Aliases: im.Aliases[:last]}
		_, number, _ := rewrite.Step(cut, x)
		if number != last-1 {
			t.Errorf("%d of %d", number, last)
		}
		hold(t, cut, x)
	}
	x = of("iw-latn-us-1994")
	x.Grand = "i-hak"
	holdStep(t, with("variant 1994 - 1996", "lang iw - he", "grand 07 - hak"), x, of("hak"), 2, true)
}
