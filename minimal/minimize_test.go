package minimal_test

import (
	"fmt"
	"strings"
	"testing"

	"isogloss/api"
	"isogloss/data"
	"isogloss/minimal"
	"isogloss/parse"
	"isogloss/render"
	"isogloss/tag"
)

// handedOut are tags, and their least ones by the image that is handed out: without script, and with it, if that is another one; none, if there is none in full.
func handedOut() map[string]string {
	return map[string]string{
		// The chapter's examples.
		"zh-Hant-TW": "zh-TW zh-Hant", "en-Latn-US": "en", "sr-Latn-RS": "sr-Latn",
		// Without both.
		"en": "en", "und": "en", "und-US": "en", "en-US": "en", "en-Latn": "en", "zh": "zh", "zh-CN": "zh", "zh-Hans": "zh", "zh-Hans-CN": "zh", "und-Hans": "zh", "sr-Cyrl-RS": "sr", "und-Cyrl": "ru", "ru-RU": "ru", "und-Hebr-IL": "he", "ja-Jpan-JP": "ja", "und-Thai-US": "en-Thai", "hi-IN": "hi", "und-u-co-x-a": "en-u-co-x-a",
		// Without Script alone, with script or not.
		"zh-HK": "zh-HK", "zh-Hant-HK": "zh-HK", "und-Hant-HK": "zh-HK", "sr-ME": "sr-ME", "sr-Latn-ME": "sr-ME", "en-GB": "en-GB", "en-Latn-GB": "en-GB", "und-419": "es-419", "es-Latn-419": "es-419", "und-Latn-DE": "en-DE", "und-DE": "en-DE", "de-Latn-AT": "de-AT", "ru-Cyrl-UA": "ru-UA", "und-Cyrl-UA": "ru-UA",
		// Without Region alone, with script or not.
		"sr-Latn": "sr-Latn", "en-Shaw": "en-Shaw", "en-Shaw-GB": "en-Shaw", "en-Cyrl": "en-Cyrl", "en-Cyrl-US": "en-Cyrl", "hi-Latn": "hi-Latn", "hi-Latn-IN": "hi-Latn", "xx-Hant": "xx-Hant", "xx-Hant-TW": "xx-Hant", "bg-Cyrl-RU": "bg-Cyrl", "zh-Latn": "zh-Latn", "zh-Latn-CN": "zh-Latn",
		// Without either of them.
		"zh-TW": "zh-TW zh-Hant", "zh-Hant": "zh-TW zh-Hant", "und-Hant": "zh-TW zh-Hant", "und-Hant-TW": "zh-TW zh-Hant", "zh-TW-u-co-x-a": "zh-TW-u-co-x-a zh-Hant-u-co-x-a",
		// With all.
		"zh-Hans-TW": "zh-Hans-TW", "zh-Hant-CN": "zh-Hant-CN", "sr-Cyrl-ME": "sr-Cyrl-ME", "sr-Latn-DE": "sr-Latn-DE", "en-Shaw-US": "en-Shaw-US", "hi-Latn-US": "hi-Latn-US", "xx-Hant-HK": "xx-Hant-HK", "bg-Cyrl-BG": "bg-Cyrl-BG", "und-Zzzz-ZZ": "en-Zzzz-ZZ", "und-Cyrl-419": "es-Cyrl-419",
		// All else stays, as it stands.
		"zh-yue-cmn-Hant-TW": "zh-yue-cmn-TW zh-yue-cmn-Hant", "de-Latn-DE-1996-1901": "de-1996-1901", "sr-Cyrl-ME-1994": "sr-Cyrl-ME-1994", "en-Latn-US-u-co-true-t-und-latn-us-a-bb-x-us-latn": "en-u-co-true-t-und-latn-us-a-bb-x-us-latn", "und-fonipa-1994-x-und": "en-fonipa-1994-x-und",
		// No row.
		"xx": "", "xx-US": "", "xx-Latn-US": "", "iw": "", "iw-Latn-IL": "", "no": "", "root": "", "undx": "", "x-en": "", "x-en-latn-us": "", "i-klingon": "", "zh-min-nan": "", "en-GB-oed": "", "xx-Latn-US-1994-u-co-x-a": "",
	}
}

// P19.2: tags of texts, by the image that is handed out.
func TestMinimize(t *testing.T) {
	im := data.Image()
	for s, told := range handedOut() {
		there := told != ""
		if !there {
			told = s
		}
		for _, script := range bools() {
			want, favoured, two := strings.Cut(told, " ")
			if script && two {
				want = favoured
			}
			hold(t, im, of(s), script, of(want), there)
			if again, ok := minimizeAgain(im, of(s), script); ok != there || !tag.Same(again, of(want)) {
				t.Errorf("%s, %t: %s, %t", s, script, said(again), ok)
			}
			if got, _ := minimal.Minimize(im, of(s), script); there && render.String(got) != want {
				t.Errorf("%s, %t: %s, want %s", s, script, render.String(got), want)
			}
			// Without any row all is as it was.
			hold(t, api.Image{}, of(s), script, of(s), false)
			hold(t, api.Image{Likely: []api.Likely{}}, of(s), script, of(s), false)
		}
	}
	for _, x := range []api.Tag{{}, laden(api.Tag{}), fields("- latn us"), laden(fields("- latn us")), {Grand: "i-klingon"}, {Private: []string{"en"}}, {Variants: []string{"en"}}, {Extlang: []string{"cmn"}}, {Exts: []api.Ext{{Key: "u", Subs: []string{"und"}}}}} {
		for _, script := range bools() {
			hold(t, im, x, script, x, false)
			hold(t, api.Image{}, x, script, x, false)
		}
	}
}

// P19.2: each of the trials as the first one that says all.
func TestMinimizeFirst(t *testing.T) {
	for set := range 1 << 3 {
		says := func(at int) bool { return set>>at&1 != 0 }
		rows := []string{"yy - - en shaw gb", "und - gb en shaw gb", "und shaw - en shaw gb", "und - - en shaw gb"}
		for at, x := range []struct{ asked, other string }{{"en - - ", "en latn us"}, {"en - gb ", "en latn gb"}, {"en shaw - ", "en shaw us"}} {
			if says(at) {
				x.other = "en shaw gb"
			}
			rows = append(rows, x.asked+x.other)
		}
		for _, script := range bools() {
			want := "en shaw gb"
			switch {
			case says(0):
				want = "en - -"
			case says(1) && (!script || !says(2)):
				want = "en - gb"
			case says(2):
				want = "en shaw -"
			}
			for _, s := range []string{"en shaw gb", "und - gb", "und shaw -", "und - -", "und shaw gb"} {
				hold(t, with(rows...), fields(s), script, fields(want), true)
				hold(t, with(rows...), laden(fields(s)), script, laden(fields(want)), true)
			}
		}
	}
}

// P19.2: where no trial says all: what is full, and true.
func TestMinimizeNone(t *testing.T) {
	for s, x := range map[string]struct {
		full string
		rows []string
	}{
		// There is no row any more of what is full.
		"und - -": {"en latn us", []string{"und - - en latn us"}}, "und - gb": {"en latn gb", []string{"und - gb en latn us", "und - - xx cyrl ru"}}, "und cyrl gb": {"ru cyrl gb", []string{"und cyrl gb ru latn us"}},
		// Nothing is left by which a row could be found.
		"und latn us": {"- latn us", []string{"und - us - - -", "- latn us a bbbb cc", "- - - - latn us"}}, "und latn -": {"- latn -", []string{"und latn - - - -"}},
		// What is full is something else again, in full.
		"und - fr": {"xx - fr", []string{"und - fr xx - -", "xx - fr xx latn fr", "xx - - xx latn fr"}}, "und cyrl -": {"xx cyrl -", []string{"und cyrl - xx - -", "xx cyrl - xx - ru"}},
		"und - de": {"en - de", []string{"und - de en - -", "en - de en latn de", "en - - en cyrl de"}},
	} {
		im := with(x.rows...)
		for _, script := range bools() {
			hold(t, im, fields(s), script, fields(x.full), true)
			hold(t, im, laden(fields(s)), script, laden(fields(x.full)), true)
			if again, ok := minimizeAgain(im, fields(s), script); !ok || !tag.Same(again, fields(x.full)) {
				t.Errorf("%s: %s, %t", s, said(again), ok)
			}
			for _, less := range trialsAgain(fields(x.full), script) {
				if saysAgain(im, less, fields(x.full)) {
					t.Errorf("%s: %s says all", s, said(less))
				}
			}
		}
	}
}

// P19.2, P1: tags and images that may not be: texts as they stand, targets that are empty, or no such thing.
func TestMinimizeWrong(t *testing.T) {
	im := with("en - - - - -", "und - - - - -", "und latn - und - us", "fr - - x - fr", "de - - x latn -", "EN - - a AAAA AA", "EN Latn - b BBBB BB", "UND - - c cccc cc", "und Latn - D dddd dd", "und und - und und und", "no-such - - e \xff 日", "\xff é - f ffff \x00", "und - \xff \xff \x00 é")
	im.Aliases, im.Rules, im.Members, im.Threshold, im.Demote = []api.Alias{{Kind: -1}}, []api.Rule{{Level: 9}}, []api.Member{{}}, -1, 1<<40
	for s, told := range map[string]string{
		"en - -": "en - -", "en latn us": "en latn us", "en - us": "en - us", "en latn -": "en latn -", "und - -": "- - -", "und - us": "- - us", "und cyrl -": "- cyrl -", "und latn -": "und latn -", "und latn us": "und latn -", "und latn gb": "und latn gb",
		"fr - -": "fr - -", "fr - fr": "fr - -", "fr latn fr": "fr latn -", "de - -": "de - -", "de latn -": "de - -", "de latn at": "de - at", "de - at": "de - at",
		"EN - -": "EN - -", "EN AAAA -": "EN - -", "EN Latn -": "EN Latn -", "EN Latn BB": "EN Latn -", "EN latn -": "EN latn -", "EN Latn GB": "EN Latn GB", "EN AAAA GB": "EN - GB", "UND - -": "UND - -", "UND cccc cc": "UND - -", "Und Latn -": "Und Latn -", "und Latn -": "D Latn -", "und und -": "und und -", "xx und -": "xx und -",
		"no-such - -": "no-such - -", "no-such - x": "no-such - x", "\xff é -": "\xff é -", "und - \xff": "\xff \x00 \xff",
	} {
		for _, script := range bools() {
			hold(t, im, fields(s), script, fields(told), true)
			hold(t, im, laden(fields(s)), script, laden(fields(told)), true)
		}
	}
	for _, s := range []string{"En - -", "FR - -", "xx - -", "- - -", "- latn us", "\xff - -", "Und - -", "no such -", "xx cyrl -", "\xff \x00 \xff"} {
		for _, script := range bools() {
			hold(t, im, fields(s), script, fields(s), false)
			hold(t, im, laden(fields(s)), script, laden(fields(s)), false)
		}
	}
}

// P19.2: it agrees with what the chapter says, of images of some rows, that may be or not, of all tags of some texts.
func TestMinimizeAgrees(t *testing.T) {
	var pool []string
	for _, l := range []string{"en", "und"} {
		for _, s := range []string{"latn", "-"} {
			for _, r := range []string{"us", "-"} {
				pool = append(pool, strings.Join([]string{l, s, r}, " "))
			}
		}
	}
	to := []string{" en latn us", " und latn us", " - - -", " en - us", " xx cyrl gb", " en latn -", " en cyrl us"}
	least := map[string]int{}
	for set := range 1 << len(pool) {
		var all []string
		for at, s := range pool {
			if set>>at&1 != 0 {
				all = append(all, s+to[(at+set/3)%len(to)])
			}
		}
		im := with(all...)
		mixed([]string{"en", "und", "xx", ""}, []string{"latn", "cyrl", ""}, []string{"us", "gb", ""}, func(x api.Tag) {
			for _, script := range bools() {
				got, ok := minimal.Minimize(im, x, script)
				want, there := minimizeAgain(im, x, script)
				if !tag.Same(got, want) || ok != there {
					t.Errorf("Minimize(%q, %s, %t): %s, %t, want %s, %t", all, said(x), script, said(got), ok, said(want), there)
				}
				least[fmt.Sprint(ok, script, got.Script != "", got.Region != "")]++
			}
		})
	}
	for kind, count := range least {
		if count < 100 {
			t.Error("just", kind, count)
		}
	}
	if len(least) != 16 {
		t.Error("just", least)
	}
}

// P19.2: it agrees with what the chapter says, of all short texts that are tags, by the image that is handed out.
func TestMinimizeAgreesTexts(t *testing.T) {
	im, some := data.Image(), 0
	for _, l := range []string{"und", "en", "zh", "zh-yue", "sr", "xx", "x-und", "i-klingon", "Fil"} {
		for _, s := range []string{"", "-Latn", "-Hant", "-hans", "-Cyrl", "-Thai"} {
			for _, r := range []string{"", "-us", "-419", "-TW", "-me", "-hk"} {
				for _, rest := range []string{"", "-1994-scouse", "-u-co-t-und", "-x-us"} {
					x, e := parse.Parse(l + s + r + rest)
					if e != nil {
						continue
					}
					some++
					for _, script := range bools() {
						want, there := minimizeAgain(im, x, script)
						hold(t, im, x, script, want, there)
					}
				}
			}
		}
	}
	if some < 1000 {
		t.Error("just", some)
	}
}

// R3: what is handed in is not kept, and what is told is the caller's, also where it is as it was.
func TestMinimizeKept(t *testing.T) {
	for s, want := range map[string]string{"und - -": "en - -", "zh hant tw": "zh - tw", "sr latn rs": "sr latn -", "zh hans tw": "zh hans tw", "xx - -": "xx - -", "- - -": "- - -"} {
		im, x := data.Image(), laden(fields(s))
		a, _ := minimal.Minimize(im, x, false)
		b, _ := minimal.Minimize(im, x, false)
		spoil(a)
		clear(im.Likely)
		spoil(x)
		if wanted := laden(fields(want)); !tag.Same(b, wanted) {
			t.Errorf("%s: %s, want %s", s, said(b), said(wanted))
		}
		c, _ := minimal.Minimize(data.Image(), b, false)
		if !tag.Same(c, b) {
			t.Errorf("%s: %s, want %s", s, said(c), said(b))
		}
	}
	// Rows with room behind their end: what is told is not written there, nor anything ahead of it.
	room := strings.Fields("a b c d e f")
	x := api.Tag{Lang: "en", Extlang: room[0:1:2], Variants: room[1:2], Private: room[2:4], Exts: []api.Ext{{Key: "u", Subs: room[0:5]}, {Key: "a", Subs: room[3:4:6]}}}
	got, ok := minimal.Minimize(data.Image(), x, true)
	want := api.Tag{Lang: "en", Extlang: []string{"a"}, Variants: []string{"b"}, Private: []string{"c", "d"}, Exts: []api.Ext{{Key: "u", Subs: []string{"a", "b", "c", "d", "e"}}, {Key: "a", Subs: []string{"d"}}}}
	if !ok || !tag.Same(got, want) {
		t.Errorf("%s, %t, want %s", said(got), ok, said(want))
	}
	if spoil(got) || strings.Join(room, " ") != "a b c d e f" {
		t.Errorf("%q", room)
	}
}

// P1: long texts, and long rows, and many rows of the Likely.
func TestMinimizeLong(t *testing.T) {
	x := longTag()
	im := api.Image{Likely: make([]api.Likely, 200000)}
	im.Likely[7] = api.Likely{L: x.Lang, ToL: "a", ToS: x.Script, ToR: "c"}
	im.Likely[199999] = api.Likely{L: "und", S: x.Script, ToL: "a", ToS: "b", ToR: x.Region}
	for _, script := range bools() {
		want := tag.Clone(x)
		want.Script = ""
		if got, ok := minimal.Minimize(im, x, script); !ok || !tag.Same(got, want) {
			t.Error("of long texts:", ok)
		}
		other := tag.Clone(x)
		other.Lang = x.Lang + "x"
		want = tag.Clone(other)
		want.Region = ""
		if got, ok := minimal.Minimize(im, other, script); !ok || !tag.Same(got, want) {
			t.Error("of another one:", ok)
		}
		other.Script = ""
		if got, ok := minimal.Minimize(im, other, script); ok || !tag.Same(got, other) {
			t.Error("not as it was:", ok)
		}
	}
}
