package canon_test

import (
	"errors"
	"fmt"
	"slices"
	"strings"
	"testing"

	"isogloss/api"
	"isogloss/canon"
	"isogloss/data"
	"isogloss/fault"
	"isogloss/parse"
	"isogloss/render"
	"isogloss/tag"
)

// names are texts, and what they are called now, by the image that is handed out.
func names() map[string]string {
	return map[string]string{
		// The chapter's examples.
		"iw-fonipa-1994-u-co-true-ca-islamicc": "he-1994-fonipa-u-ca-civil-co", "zh-min-nan": "nan", "sgn-us": "ase", "sh-yu": "sr-Latn-RS",
		// What is called so already, but for cases.
		"en": "en", "EN-us": "en-US", "az-LATN-az": "az-Latn-AZ", "x-a": "x-a", "X-Whatever-US": "x-whatever-us", "de-1901-u-co": "de-1901-u-co", "und": "und", "en-ca-X-CA-latn": "en-CA-x-ca-latn", "sgn": "sgn", "sgn-fr": "sgn-FR", "x-iw-su": "x-iw-su", "en-x-iw-su": "en-x-iw-su",
		// One step, by each kind of aliases, by an extlang, and by none but the order.
		"art-lojban": "jbo", "I-HAK": "hak", "zh-hakka": "hak", "sgn-BE-fr": "sfb", "no-bok": "nb", "sgn-GB": "bfi", "iw": "he", "in": "id", "mo-MD": "ro-MD", "cnr": "sr-ME", "cnr-hr": "sr-HR", "sh": "sr-Latn", "sh-cyrl": "sr-Cyrl", "en-qaai": "en-Zinh", "en-840": "en-US", "de-dd": "de-DE", "ru-su": "ru-RU", "ja-heploc": "ja-alalc97", "el-polytoni": "el-polyton", "en-u-ms-imperial": "en-u-ms-uksystem", "zh-cmn": "zh", "zh-yue": "yue", "zh-yue-hk": "yue-HK", "sgn-ase": "ase", "sgn-ase-us": "ase-US", "de-b-xy-a-zz-x-u": "de-a-zz-b-xy-x-u", "en-u-co-true": "en-u-co",
		// Several aliases one behind the other.
		"zh-cmn-hans-156": "zh-Hans-CN", "zh-cmn-HANS-cn": "zh-Hans-CN", "sh-cs": "sr-Latn-RS", "cnr-Cyrl-YU": "sr-Cyrl-RS", "sh-qaai-yu": "sr-Zinh-RS", "sgn-deu-su": "de-RU", "iw-qaai-tp-polytoni-heploc": "he-Zinh-TL-alalc97-polyton", "no-bu": "nb-MM", "ar-cmn-dd-heploc-alalc97-u-ca-islamicc-kb-yes-co-diction": "zh-DE-alalc97-u-ca-civil-co-dict-kb", "und-qaai-840": "und-Zinh-US",
		// A type is one just by its key, and just if nothing else stands there; what is `true` then is left out.
		"en-u-kb-yes": "en-u-kb", "en-u-ca-islamicc-civil": "en-u-ca-islamicc-civil", "en-u-co-islamicc": "en-u-co-islamicc", "en-u-islamicc": "en-u-islamicc", "en-u-ca-islamicc-ca-buddhist": "en-u-ca-civil", "en-u-ca-buddhist-ca-islamicc": "en-u-ca-buddhist", "en-a-ca-islamicc": "en-a-ca-islamicc", "en-t-iw-su": "en-t-iw-su", "en-t-ca-islamicc": "en-t-ca-islamicc",
		// A variant that is there already goes.
		"ja-heploc-alalc97": "ja-alalc97", "ja-alalc97-heploc": "ja-alalc97", "el-polyton-polytoni-1994": "el-1994-polyton",
		// Grandfathered tags that have an alias, and those that have none.
		"i-klingon": "tlh", "i-lux": "lb", "i-navajo": "nv", "zh-xiang": "hsn", "sgn-ch-de": "sgg", "i-default": "i-default", "I-Mingo": "i-mingo", "i-enochian": "i-enochian", "cel-gaulish": "cel-gaulish", "zh-guoyu": "zh-guoyu", "ZH-min": "zh-min", "en-gb-oed": "en-GB-oed",
		// Pairs, also those that are one just behind another step.
		"sgn-840": "ase", "sgn-br-1994": "bzs-1994", "sgn-Latn-DE-x-de": "gsg-Latn-x-de", "sgn-sgn-us": "ase", "sgn-dd": "gsg", "sgn-su": "sgn-RU", "sgn-cmn-us": "zh-US",
	}
}

// P17.2: texts by the image that is handed out.
func TestText(t *testing.T) {
	im := data.Image()
	before := said(im)
	for s, want := range names() {
		for _, asked := range []string{s, strings.ToUpper(s), lower(s)} {
			for range 2 {
				if got, e := canon.Text(im, asked); got != want || e != nil {
					t.Errorf("Text(%s): %s, %v, want %s", asked, got, e, want)
				}
			}
		}
		if got, e := canon.Text(im, want); got != want || e != nil {
			t.Errorf("Text(%s): %s, %v", want, got, e)
		}
		x, now := of(s), of(want)
		hold(t, im, x, now)
		hold(t, im, now, now)
		if !tag.Same(canonicalAgain(im, x), now) {
			t.Errorf("%s: %s", s, said(canonicalAgain(im, x)))
		}
		// A text's tag may be called so, whatever cases it is in.
		if is := canon.Is(im, x); is != (lower(s) == lower(want)) {
			t.Errorf("Is(%s): %v", s, is)
		}
	}
	if said(im) != before {
		t.Error("the image is changed")
	}
}

// P17.2: by the empty image, what is called otherwise is just in order, but for its extlangs.
func TestTextEmpty(t *testing.T) {
	for s, want := range map[string]string{
		"iw-fonipa-1994-u-co-true-ca-islamicc": "iw-1994-fonipa-u-ca-islamicc-co", "zh-min-nan": "zh-min-nan", "sgn-us": "sgn-US", "sh-yu": "sh-YU", "zh-cmn-hans": "cmn-Hans", "zh-yue-cmn-gan-tw": "yue-TW", "x-b-a": "x-b-a", "en-u-kb-yes": "en-u-kb-yes",
	} {
		if got, e := canon.Text(api.Image{}, s); got != want || e != nil {
			t.Errorf("Text(%s): %s, %v, want %s", s, got, e, want)
		}
		hold(t, api.Image{}, of(s), of(want))
	}
	for s, want := range orders() {
		x := of(s)
		if len(x.Extlang) == 0 {
			hold(t, api.Image{}, x, of(want))
		}
	}
}

// P17.2: of a text that is none, parse.Parse's error, and nothing else.
func TestTextWrong(t *testing.T) {
	for s, want := range map[string]struct {
		kind  api.Errno
		place int
		what  string
	}{
		"en--us": {api.ErrSyntax, 3, "subtag"}, "": {api.ErrSyntax, 0, "subtag"}, "-": {api.ErrSyntax, 0, "subtag"}, "-en": {api.ErrSyntax, 0, "subtag"}, "en-": {api.ErrSyntax, 3, "subtag"}, "en_us": {api.ErrSyntax, 0, "subtag"}, "é": {api.ErrSyntax, 0, "subtag"}, "en-toolongsub": {api.ErrSyntax, 3, "subtag"}, "iw-\xff": {api.ErrSyntax, 3, "subtag"},
		"x": {api.ErrSyntax, 1, "end"}, "en-u": {api.ErrSyntax, 4, "end"}, "en-x": {api.ErrSyntax, 4, "end"}, "a": {api.ErrSyntax, 0, "subtag"}, "en-us-us": {api.ErrSyntax, 6, "subtag"}, "i-nothing": {api.ErrSyntax, 0, "subtag"}, "zh-min-nan-us-us": {api.ErrSyntax, 14, "subtag"},
		"de-1901-1901": {api.ErrDuplicate, 8, "variant"}, "ja-heploc-HEPLOC": {api.ErrDuplicate, 10, "variant"}, "en-u-co-u-ca": {api.ErrDuplicate, 8, "singleton"}, "en-A-bb-a-cc": {api.ErrDuplicate, 8, "singleton"},
	} {
		for _, im := range []api.Image{{}, data.Image()} {
			got, e := canon.Text(im, s)
			_, of := parse.Parse(s)
			if got != "" || e == nil || of == nil || e.Error() != of.Error() || fault.Kind(e) != want.kind || fault.Place(e) != want.place || fmt.Sprint(fault.Whats(e)) != "["+want.what+"]" || !errors.Is(e, want.kind) {
				t.Errorf("Text(%.40q): %q, %v of %v at %d, %q, want %v", s, got, e, fault.Kind(e), fault.Place(e), fault.Whats(e), want)
			}
		}
	}
}

// P17.2: Text agrees with what is parsed, canonical and rendered, of all short rows of subtags.
func TestTextAgrees(t *testing.T) {
	im, some := data.Image(), 0
	rows([]string{"iw", "cmn", "Sgn", "qaai", "US", "840", "heploc", "alalc97", "u", "ca", "islamicc", "x", ""}, 4, func(row []string) {
		s := strings.Join(row, "-")
		got, e := canon.Text(im, s)
		x, wrong := parse.Parse(s)
		if wrong != nil {
			if got != "" || e == nil || e.Error() != wrong.Error() {
				t.Errorf("Text(%s): %s, %v, want %v", s, got, e, wrong)
			}
			return
		}
		some++
		if want := render.String(canon.Canonical(im, x)); got != want || e != nil {
			t.Errorf("Text(%s): %s, %v, want %s", s, got, e, want)
		}
		if now := canonicalAgain(im, x); !tag.Same(canon.Canonical(im, x), now) || canon.Is(im, x) != tag.Same(x, now) {
			t.Errorf("%s: %s, %v, want %s", s, said(canon.Canonical(im, x)), canon.Is(im, x), said(now))
		}
	})
	if some < 500 {
		t.Error("just", some)
	}
}

// P17.2: no step at all: Canonical is Order, and Is, whether it is in order.
func TestCanonicalNone(t *testing.T) {
	im := with("lang iw - he", "grand 24 - nan", "type ca islamicc civil")
	for _, x := range []api.Tag{
		{}, of("en"), of("zh-min"), of("x-b-a"), of("en-scouse-fonipa-u-co-true-ca"), of("en-1994-fonipa-a-bb-u-ca-co"), {Grand: "no such one", Variants: []string{"b", "a"}}, {Private: []string{"iw"}}, {Lang: "IW", Variants: []string{"b", "b", "a", "a"}}, {Script: "iw", Region: "iw", Variants: []string{"iw"}},
		extensions("u", "t"), extensions("t", "u"), extensions("u co true", "u ca islamicc"), {Exts: []api.Ext{{Key: "U", Subs: []string{"ca", "islamicc"}}}}, {Exts: []api.Ext{{Key: "t", Subs: []string{"ca", "islamicc"}}}},
	} {
		hold(t, im, x, orderAgain(x))
		hold(t, api.Image{}, x, orderAgain(x))
	}
	// By the text that it is, in order or not.
	for s, want := range map[string]bool{"en": true, "en-1994-fonipa": true, "en-fonipa-1994": false, "en-a-bb-b-cc": true, "en-b-cc-a-bb": false, "en-u-co": true, "en-u-co-true": false, "en-u-co-ca": false, "en-u-bar-foo": true, "en-u-foo-bar": false, "en-t-m0-zz-h0-zz": false, "en-t-h0-zz-m0-zz": true, "en-t-de-scouse-fonipa": false, "en-t-de-fonipa-scouse": true, "x-b-a": true, "zh-min": true, "zh-min-nan": false, "iw": false, "he": true, "zh-yue": false, "en-u-ca-islamicc": false, "en-u-ca-civil": true} {
		if is := canon.Is(im, of(s)); is != want {
			t.Errorf("Is(%s): %v", s, is)
		}
	}
	// In great letters it may not be, but is not called otherwise.
	for _, x := range []api.Tag{{Lang: "EN"}, {Lang: "IW", Region: "US"}, {Grand: "I-DEFAULT"}, {Variants: []string{"A", "a"}}} {
		hold(t, im, x, x)
	}
	// An empty row is the same as none.
	if x := (api.Tag{Lang: "en", Extlang: []string{}, Variants: []string{}, Exts: []api.Ext{}, Private: []string{}}); !canon.Is(im, x) {
		t.Error("not called so, with empty rows")
	}
	if x := (api.Tag{Exts: []api.Ext{{Key: "u", Subs: []string{}}}}); !canon.Is(im, x) {
		t.Error("not called so, with empty Subs")
	}
}

// P17.2: the order is that of the last tag, not of the first one.
func TestCanonicalLast(t *testing.T) {
	im := with("variant aaaaa - zzzzz", "variant yyyyy - bbbbb", "type zz aaa true", "type aa bbb ccc", "lang xxx - zh", "grand 22 - hak hant tw", "grand 24 - iw", "lang iw - in")
	for s, want := range map[string]string{
		"en-aaaaa-mmmmm-yyyyy": "en-bbbbb-mmmmm-zzzzz", "en-yyyyy-aaaaa": "en-bbbbb-zzzzz", "en-u-zz-aaa-aa-bbb": "en-u-aa-ccc-zz", "en-u-zz-aaa-zz-bbb": "en-u-zz", "en-u-zz-aaa-true": "en-u-zz-aaa-true",
		// Just the last one of several is told.
		"zh-xxx-hakka": "hak-Hant-TW", "zh-min-nan": "in", "xxx-hakka": "hak-Hant-TW",
	} {
		if got, e := canon.Text(im, s); got != want || e != nil {
			t.Errorf("Text(%s): %s, %v, want %s", s, got, e, want)
		}
		hold(t, im, of(s), of(want))
	}
	// Each of several extensions `u` is in order, the first alone is called otherwise.
	hold(t, im, extensions("u zz aaa aa bbb", "t b", "u zz aaa aa bbb"), extensions("t b", "u aa ccc zz", "u aa bbb zz aaa"))
	// Of a Grand nothing else is left.
	hold(t, im, api.Tag{Grand: "zh-min-nan", Lang: "aa", Variants: []string{"b", "a"}, Exts: []api.Ext{extension("u zz")}, Private: []string{"a"}}, api.Tag{Lang: "in"})
}

// P17.2: of aliases that lead round in a circle it is the tag behind the last one of Trace's steps.
func TestCanonicalCircle(t *testing.T) {
	im := with("lang aa - bb", "lang bb - aa")
	for more, rest := range []string{"", "-latn", "-latn-us", "-latn-us-1994", "-a-bb-cc-dd", "-u-co-true-ca-bbb", "-scouse-fonipa-1994-x-b-a"} {
		if more > 3 {
			more = strings.Count(rest, "-")
		}
		// There are 11 and more steps: behind an even number of them it is what it was.
		first, last := "aa", "bb"
		if more%2 != 0 {
			last = first
		}
		hold(t, im, of(first+rest), orderAgain(of(last+rest)))
		if got := canonicalAgain(im, of(first+rest)); got.Lang != last {
			t.Error(said(got))
		}
	}
	hold(t, with("lang aa - aa"), of("aa-fonipa-1994"), of("aa-1994-fonipa"))
	hold(t, with("lang"), api.Tag{}, api.Tag{})
	for _, im := range []api.Image{with("variant aaaaa - bbbbb", "variant bbbbb - aaaaa"), with("variant bbbbb - ccccc", "variant ccccc - aaaaa", "variant aaaaa - bbbbb"), with("type ca aaa bbb", "type ca bbb aaa"), with("grand 24 - zh", "lang zh - no", "lang no - zh"), with("script latn - - cyrl", "script cyrl - - latn", "region us - - - us")} {
		for _, s := range []string{"en-aaaaa", "en-bbbbb-aaaaa", "en-ccccc-aaaaa", "en-u-ca-aaa", "en-latn-us-u-ca-bbb", "zh-min-nan", "no-1994", "en-cyrl-aaaaa"} {
			hold(t, im, of(s), canonicalAgain(im, of(s)))
		}
	}
	// A row of aliases that is longer than the steps that there are.
	var long api.Image
	name := func(i int) string { return fmt.Sprintf("a%c", 'a'+i) }
	for i := range 20 {
		long.Aliases = append(long.Aliases, api.Alias{Kind: 3, A: name(i), L: name(i + 1)})
	}
	for i := range 20 {
		hold(t, long, of(name(i)), of(name(min(i+11, 20))))
		hold(t, long, of(name(i)+"-fonipa-1994"), of(name(min(i+13, 20))+"-1994-fonipa"))
	}
}

// P17.2, P1: tags and images that may not be.
func TestCanonicalWrong(t *testing.T) {
	odd := api.Image{Aliases: []api.Alias{{}, {Kind: -1}, {Kind: 8, A: "en", L: "xx"}, {Kind: 3, A: "EN", L: "", S: "é", R: "\xff"}, {Kind: 3, A: "", L: "no-such"}, {Kind: 5, A: "us", R: ""}, {Kind: 6, A: "", L: "zz"}, {Kind: 6, A: "a", L: ""}, {Kind: 7, A: "ca", B: "", L: "b"}, {Kind: 7, A: "", B: "a", L: "é"}, {Kind: 1, A: "99", L: "xx"}, {Kind: 2, A: "en", B: "", L: "iw"}}, Likely: []api.Likely{{}}, Rules: []api.Rule{{Level: -1}}, Members: []api.Member{{}}, Threshold: -1, Demote: -1}
	for _, im := range []api.Image{{}, odd, data.Image(), with("lang en", "variant b - a", "variant c - a")} {
		for _, x := range []api.Tag{
			{}, {Lang: "EN"}, {Lang: "en", Region: "us"}, {Lang: "no-such"}, {Lang: "\xff", Script: "é", Region: "日"}, {Lang: "en", Extlang: []string{"", "iw"}}, {Extlang: []string{"iw", "iw"}, Lang: "a"},
			{Variants: []string{"", "a", "", "a", "A", "b", "c"}}, {Lang: "en", Variants: []string{"heploc", "heploc", "alalc97"}}, {Private: []string{"", ""}}, {Lang: "sgn-us"}, {Lang: "sgn", Variants: []string{"be", "fr"}}, {Grand: "ZH-MIN-NAN"}, {Grand: "zh-min-nan", Extlang: []string{"a"}}, {Grand: "zh"}, {Lang: "i", Variants: []string{"klingon"}},
			extensions("u ca", "u ca islamicc", "u"), extensions("u ca islamicc", "u ca islamicc"), extensions("u CA Islamicc KB Yes"), extensions("", "", " a"), {Exts: []api.Ext{{Key: "u", Subs: []string{"ca", "", "", "a", "é"}}, {Key: "u-co", Subs: []string{"a-b"}}}},
		} {
			hold(t, im, x, canonicalAgain(im, x))
		}
	}
}

// R3: what is handed in is not kept, and two answers share nothing.
func TestCanonicalKept(t *testing.T) {
	im, x := data.Image(), of("sh-dd-heploc-polytoni-u-ca-islamicc-co-diction-foo9-x-b-a")
	a, b := canon.Canonical(im, x), canon.Canonical(im, x)
	want := said(b)
	spoil(a)
	clear(im.Aliases)
	spoil(x)
	if said(b) != want {
		t.Error(said(b))
	}
	// No row of the image shows in an answer, either.
	if !slices.Equal(b.Variants, []string{"alalc97", "polyton"}) {
		t.Error(said(b))
	}
}

// P1: a tag with many subtags that are called otherwise, each of them.
func TestCanonicalMany(t *testing.T) {
	const many = 1000
	var im api.Image
	x, want := api.Tag{Lang: "en"}, api.Tag{Lang: "en"}
	for i := range many {
		x.Variants = append(x.Variants, fmt.Sprintf("v%04d", i*77%many))
		im.Aliases = append(im.Aliases, api.Alias{Kind: 6, A: fmt.Sprintf("v%04d", i), L: fmt.Sprintf("w%04d", many-1-i)})
		want.Variants = append(want.Variants, fmt.Sprintf("w%04d", i))
	}
	if got := canon.Canonical(im, x); !tag.Same(got, want) || canon.Is(im, x) || !canon.Is(im, want) {
		t.Error(len(got.Variants))
	}
}
