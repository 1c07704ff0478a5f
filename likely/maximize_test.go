package likely_test

import (
	"strings"
	"testing"

	"isogloss/api"
	"isogloss/data"
	"isogloss/likely"
	"isogloss/parse"
	"isogloss/render"
	"isogloss/tag"
)

// handedOut are tags, by the image that is handed out, and what they are in full.
func handedOut() map[string]string {
	return map[string]string{
		// The chapter's examples.
		"zh-TW": "zh-Hant-TW", "und-Cyrl": "ru-Cyrl-RU", "en-Shaw": "en-Shaw-GB",
		// By Lang and Region, by Lang and Script, by Lang alone.
		"sr-ME": "sr-Latn-ME", "zh-HK": "zh-Hant-HK", "und-419": "es-Latn-419",
		"zh-Hant": "zh-Hant-TW", "sr-Latn": "sr-Latn-RS", "hi-Latn": "hi-Latn-IN", "und-Hans": "zh-Hans-CN", "und-Hebr": "he-Hebr-IL", "und-Arab": "ar-Arab-EG",
		"en": "en-Latn-US", "und": "en-Latn-US", "zh": "zh-Hans-CN", "sr": "sr-Cyrl-RS", "fil": "fil-Latn-PH", "ja": "ja-Jpan-JP",
		// By `und` and Script, as there is no row of the Lang.
		"xx-Hant": "xx-Hant-TW", "xx-Cyrl-BG": "xx-Cyrl-BG", "bg-Cyrl": "bg-Cyrl-RU", "yi-Hebr": "yi-Hebr-IL", "yue-Hant-HK": "yue-Hant-HK",
		// Script, Region, and a Lang that is not `und`, stay.
		"en-GB": "en-Latn-GB", "en-Cyrl": "en-Cyrl-US", "en-Deva-IN": "en-Deva-IN", "de-AT": "de-Latn-AT", "zh-Hans-TW": "zh-Hans-TW", "zh-Hant-CN": "zh-Hant-CN", "zh-Latn": "zh-Latn-CN", "sr-Cyrl-ME": "sr-Cyrl-ME", "sr-DE": "sr-Cyrl-DE", "en-Shaw-US": "en-Shaw-US",
		// The row of Lang and Region is ahead of that of Lang and Script.
		"zh-Hant-HK": "zh-Hant-HK", "sr-Latn-ME": "sr-Latn-ME",
		// Just Lang, if that is `und`.
		"und-US": "en-Latn-US", "und-Latn-DE": "en-Latn-DE", "und-Hant-HK": "zh-Hant-HK", "und-Cyrl-UA": "ru-Cyrl-UA", "und-Latn-419": "es-Latn-419", "und-Cyrl-419": "es-Cyrl-419", "und-Thai": "en-Thai-US", "und-Zzzz-ZZ": "en-Zzzz-ZZ",
		// All else stays.
		"de-AT-1996": "de-Latn-AT-1996", "zh-yue-cmn-HK": "zh-yue-cmn-Hant-HK", "und-fonipa-1994-u-co-true-t-und-cyrl-x-b-a": "en-Latn-US-fonipa-1994-u-co-true-t-und-cyrl-x-b-a", "sl-nedis": "", "xx-Hebr-x-hebr": "xx-Hebr-IL-x-hebr", "und-u-kb-yes-a-bb": "en-Latn-US-u-kb-yes-a-bb",
		// No row.
		"xx": "", "xx-US": "", "xx-Latn": "", "xx-Latn-US": "", "iw": "", "no": "", "cmn-Hans": "cmn-Hans-CN", "no-Latn-NO": "", "root": "", "x-en": "", "x-und-cyrl": "", "i-klingon": "", "zh-min-nan": "", "en-GB-oed": "", "bg-u-co": "", "undx": "",
	}
}

// P18.2: tags of texts, by the image that is handed out.
func TestMaximize(t *testing.T) {
	im := data.Image()
	for s, want := range handedOut() {
		there := want != ""
		if !there {
			want = s
		}
		hold(t, im, of(s), of(want), there)
		if again, ok := maximizeAgain(im, of(s)); ok != there || !tag.Same(again, of(want)) {
			t.Errorf("%s: %s, %t", s, said(again), ok)
		}
		if got, _ := likely.Maximize(im, of(s)); there && render.String(got) != want {
			t.Errorf("%s: %s, want %s", s, render.String(got), want)
		}
		// Without any row all is as it was.
		hold(t, api.Image{}, of(s), of(s), false)
		hold(t, api.Image{Likely: []api.Likely{}}, of(s), of(s), false)
	}
}

// P18.2: each of the ladder's rows is the first of which there is a likely row, whatever their order in the image.
func TestMaximizeLadder(t *testing.T) {
	for s, x := range map[string]struct{ rows, full []string }{
		"en latn us":  {[]string{"en latn us a aaaa aa", "en - us b bbbb bb", "en latn - c cccc cc", "en - - d dddd dd", "und latn - e eeee ee"}, []string{"en latn us", "en latn us", "en latn us", "en latn us", "en latn us"}},
		"en - us":     {[]string{"en - us b bbbb bb", "en - - d dddd dd"}, []string{"en bbbb us", "en dddd us"}},
		"en latn -":   {[]string{"en latn - c cccc cc", "en - - d dddd dd", "und latn - e eeee ee"}, []string{"en latn cc", "en latn dd", "en latn ee"}},
		"en - -":      {[]string{"en - - d dddd dd"}, []string{"en dddd dd"}},
		"und latn us": {[]string{"und latn us a aaaa aa", "und - us b bbbb bb", "und latn - c cccc cc", "und - - d dddd dd"}, []string{"a latn us", "b latn us", "c latn us", "d latn us"}},
		"und - us":    {[]string{"und - us b bbbb bb", "und - - d dddd dd"}, []string{"b bbbb us", "d dddd us"}},
		"und latn -":  {[]string{"und latn - c cccc cc", "und - - d dddd dd"}, []string{"c latn cc", "d latn dd"}},
		"und - -":     {[]string{"und - - d dddd dd"}, []string{"d dddd dd"}},
	} {
		// Rows that are nobody's here: one that has more, or something else.
		others := []string{"en cyrl us o oooo oo", "en latn gb o oooo oo", "xx latn us o oooo oo", "- latn us o oooo oo", "- - - o oooo oo", "- latn - o oooo oo", "und cyrl - o oooo oo", "und - gb o oooo oo", "EN latn us o oooo oo", "und Latn - o oooo oo", "us latn en o oooo oo"}
		for at := range x.rows {
			left := x.rows[at:]
			for range left {
				// From each one on, once round.
				left = append(left[1:len(left):len(left)], left[0])
				im := with(append(append(others[:5:5], left...), others[5:]...)...)
				hold(t, im, fields(s), fields(x.full[at]), true)
				hold(t, im, laden(fields(s)), laden(fields(x.full[at])), true)
			}
		}
		hold(t, with(others...), fields(s), fields(s), false)
		hold(t, with(others...), laden(fields(s)), laden(fields(s)), false)
	}
}

// P18.2: rows of the Likely that are not of the ladder: of what a tag has not, or of `und` with no Script, or with a Region.
func TestMaximizeNone(t *testing.T) {
	for s, all := range map[string][]string{
		"en - -":      {"und - - a bbbb cc", "en latn us a bbbb cc", "en latn - a bbbb cc", "en - us a bbbb cc", "- - - a bbbb cc"},
		"en - us":     {"und - - a bbbb cc", "und - us a bbbb cc", "en latn us a bbbb cc", "en latn - a bbbb cc", "- - us a bbbb cc"},
		"en latn -":   {"und - - a bbbb cc", "en latn us a bbbb cc", "en - us a bbbb cc", "und latn us a bbbb cc", "- latn - a bbbb cc"},
		"en latn us":  {"und - - a bbbb cc", "und - us a bbbb cc", "und latn us a bbbb cc", "- latn us a bbbb cc"},
		"und latn us": {"en latn us a bbbb cc", "- latn us a bbbb cc", "- - - a bbbb cc", "UND latn us a bbbb cc"},
		"UND - -":     {"und - - a bbbb cc"},
		"Und Latn us": {"und - - a bbbb cc", "und latn us a bbbb cc", "und latn - a bbbb cc", "und - us a bbbb cc"},
		// No Lang: there is no ladder.
		"- latn us": {"- latn us a bbbb cc", "- - us a bbbb cc", "- latn - a bbbb cc", "- - - a bbbb cc", "und latn - a bbbb cc", "und - - a bbbb cc", "und latn us a bbbb cc"},
		"- - -":     {"- - - a bbbb cc", "und - - a bbbb cc"},
	} {
		hold(t, with(all...), fields(s), fields(s), false)
		hold(t, with(all...), laden(fields(s)), laden(fields(s)), false)
		for _, one := range all {
			hold(t, with(one), fields(s), fields(s), false)
		}
	}
}

// P18.2: of several rows with the same L, S and R the first.
func TestMaximizeFirst(t *testing.T) {
	im := with("en latn us x xxxx xx", "und - - a aaaa aa", "en - - b bbbb bb", "und - - c cccc cc", "en - - d dddd dd", "en latn - e eeee ee", "en latn - f ffff ff")
	for s, want := range map[string]string{"und - -": "a aaaa aa", "en - -": "en bbbb bb", "en latn -": "en latn ee", "und - us": "a aaaa us", "en - gb": "en bbbb gb", "en cyrl -": "en cyrl bb"} {
		hold(t, im, fields(s), fields(want), true)
	}
	im.Likely = im.Likely[3:]
	for s, want := range map[string]string{"und - -": "c cccc cc", "en - -": "en dddd dd", "en latn -": "en latn ee"} {
		hold(t, im, fields(s), fields(want), true)
	}
	im.Likely = im.Likely[3:]
	hold(t, im, fields("en latn -"), fields("en latn ff"), true)
	hold(t, im, fields("en - -"), fields("en - -"), false)
}

// P18.2, P1: tags and images that may not be: texts as they stand, targets that are empty, or no such thing.
func TestMaximizeWrong(t *testing.T) {
	im := with("en - - - - -", "und - - - - -", "und latn - und - us", "fr - - x - fr", "de - - x latn -", "EN - - a AAAA AA", "EN Latn - b BBBB BB", "UND - - c cccc cc", "und Latn - D dddd dd", "und und - und und und", "no-such - - e \xff 日", "\xff é - f ffff \x00", "und - \xff \xff \x00 é")
	im.Aliases, im.Rules, im.Members, im.Threshold, im.Demote = []api.Alias{{Kind: -1}}, []api.Rule{{Level: 9}}, []api.Member{{}}, -1, 1<<40
	for s, want := range map[string]string{
		"en - -": "en - -", "en latn us": "en latn us", "en - us": "en - us", "und - -": "- - -", "und - us": "- - us", "und cyrl -": "- cyrl -", "und latn -": "und latn us", "und latn gb": "und latn gb", "fr - -": "fr - fr", "de - -": "de latn -", "de - at": "de latn at",
		"EN - -": "EN AAAA AA", "EN Latn -": "EN Latn BB", "EN latn -": "EN latn AA", "EN Latn GB": "EN Latn GB", "UND - -": "UND cccc cc", "UND - us": "UND cccc us", "Und Latn -": "Und Latn dd", "und Latn -": "D Latn dd", "und und -": "und und und", "xx und -": "xx und und",
		"no-such - -": "no-such \xff 日", "no-such - x": "no-such \xff x", "\xff é -": "\xff é \x00", "und - \xff": "\xff \x00 \xff",
	} {
		hold(t, im, fields(s), fields(want), true)
		hold(t, im, laden(fields(s)), laden(fields(want)), true)
	}
	for _, s := range []string{"En - -", "FR - -", "xx - -", "- - -", "- latn us", "\xff - -", "Und - -", "no such -", "xx cyrl -"} {
		hold(t, im, fields(s), fields(s), false)
		hold(t, im, laden(fields(s)), laden(fields(s)), false)
	}
}

// P18.2: it agrees with what the chapter says, of images of some rows, of all tags of some texts.
func TestMaximizeAgrees(t *testing.T) {
	var pool []string
	for _, l := range []string{"en", "und", "-"} {
		for _, s := range []string{"latn", "-"} {
			for _, r := range []string{"us", "-"} {
				pool = append(pool, strings.Join([]string{l, s, r}, " "))
			}
		}
	}
	to := []string{" aa bbbb cc", " und latn us", " - - -", " dd - cc"}
	some := 0
	for set := range 1 << len(pool) {
		var all []string
		for at, s := range pool {
			if set>>at&1 != 0 {
				all = append(all, s+to[(at+set)%len(to)])
			}
		}
		im := with(all...)
		mixed([]string{"en", "und", "xx", ""}, []string{"latn", "cyrl", ""}, []string{"us", ""}, func(x api.Tag) {
			got, ok := likely.Maximize(im, x)
			want, there := maximizeAgain(im, x)
			if !tag.Same(got, want) || ok != there {
				t.Errorf("Maximize(%q, %s): %s, %t, want %s, %t", all, said(x), said(got), ok, said(want), there)
			}
			if ok {
				some++
			}
		})
	}
	if some < 10000 {
		t.Error("just", some)
	}
}

// P18.2: it agrees with what the chapter says, of all short texts that are tags, by the image that is handed out.
func TestMaximizeAgreesTexts(t *testing.T) {
	im, some := data.Image(), 0
	langs := []string{"und", "en", "zh", "zh-yue", "sr", "xx", "x-und", "i-klingon", "Fil"}
	scripts := []string{"", "-Latn", "-Hant", "-hans", "-Cyrl", "-Thai"}
	regions := []string{"", "-us", "-419", "-TW", "-me", "-hk"}
	for _, l := range langs {
		for _, s := range scripts {
			for _, r := range regions {
				for _, rest := range []string{"", "-1994-scouse", "-u-co-t-und", "-x-us"} {
					x, e := parse.Parse(l + s + r + rest)
					if e != nil {
						continue
					}
					some++
					want, there := maximizeAgain(im, x)
					hold(t, im, x, want, there)
				}
			}
		}
	}
	if some < 1000 {
		t.Error("just", some)
	}
}

// R3: what is handed in is not kept, and what is told is the caller's, also where it is as it was.
func TestMaximizeKept(t *testing.T) {
	for s, want := range map[string]string{"und - tw": "en latn tw", "en - -": "en latn us", "zh - tw": "zh hant tw", "xx - -": "xx - -", "- - -": "- - -"} {
		im, x := data.Image(), laden(fields(s))
		a, _ := likely.Maximize(im, x)
		b, _ := likely.Maximize(im, x)
		spoil(a)
		clear(im.Likely)
		spoil(x)
		if wanted := laden(fields(want)); !tag.Same(b, wanted) {
			t.Errorf("%s: %s, want %s", s, said(b), said(wanted))
		}
		c, _ := likely.Maximize(data.Image(), b)
		if !tag.Same(c, b) {
			t.Errorf("%s: %s, want %s", s, said(c), said(b))
		}
	}
	// Rows with room behind their end: what is told is not written there, nor anything ahead of it.
	room := strings.Fields("a b c d e f")
	x := api.Tag{Lang: "en", Extlang: room[0:1:2], Variants: room[1:2], Private: room[2:4], Exts: []api.Ext{{Key: "u", Subs: room[0:5]}, {Key: "a", Subs: room[3:4:6]}}}
	got, ok := likely.Maximize(data.Image(), x)
	if want := said(api.Tag{Lang: "en", Script: "latn", Region: "us", Extlang: []string{"a"}, Variants: []string{"b"}, Private: []string{"c", "d"}, Exts: []api.Ext{{Key: "u", Subs: []string{"a", "b", "c", "d", "e"}}, {Key: "a", Subs: []string{"d"}}}}); !ok || said(got) != want {
		t.Errorf("%s, %t, want %s", said(got), ok, want)
	}
	if spoil(got) || strings.Join(room, " ") != "a b c d e f" {
		t.Errorf("%q", room)
	}
}

// P1: long texts, and long rows.
func TestMaximizeLong(t *testing.T) {
	const many = 100000
	long := strings.Repeat("und", many)
	im := with("und - - en latn us", "xx - - yy cyrl ru")
	im.Likely = append(im.Likely, api.Likely{L: long, ToL: "a", ToS: long, ToR: "c"})
	x := api.Tag{Lang: "und", Script: long, Variants: make([]string, many), Exts: make([]api.Ext, many), Private: []string{long}}
	for i := range x.Exts {
		x.Variants[i], x.Exts[i] = "fonipa", api.Ext{Key: "a", Subs: []string{"bb"}}
	}
	want := tag.Clone(x)
	want.Lang, want.Region = "en", "us"
	if got, ok := likely.Maximize(im, x); !ok || !tag.Same(got, want) {
		t.Error("not in full:", ok)
	}
	x.Lang, want.Lang, want.Region = long, long, "c"
	if got, ok := likely.Maximize(im, x); !ok || !tag.Same(got, want) {
		t.Error("long Lang: not in full:", ok)
	}
	x.Lang, want.Lang, want.Region = "yy", "yy", ""
	if got, ok := likely.Maximize(im, x); ok || !tag.Same(got, want) {
		t.Error("not as it was:", ok)
	}
}
