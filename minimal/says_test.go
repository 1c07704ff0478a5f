package minimal_test

import (
	"testing"

	"isogloss/api"
	"isogloss/data"
	"isogloss/minimal"
)

// P19.1: what says all, and what does not, by the image that is handed out.
func TestSays(t *testing.T) {
	im := data.Image()
	for _, x := range []struct {
		less, full string
		want       bool
	}{
		{"zh-TW", "zh-Hant-TW", true}, {"zh-Hant", "zh-Hant-TW", true}, {"zh-Hant-TW", "zh-Hant-TW", true}, {"und-Hant", "zh-Hant-TW", true},
		{"en", "en-Latn-US", true}, {"und", "en-Latn-US", true}, {"en-US", "en-Latn-US", true}, {"en-Latn", "en-Latn-US", true}, {"und-US", "en-Latn-US", true},
		{"sr-Latn", "sr-Latn-RS", true}, {"sr-Cyrl-ME", "sr-Cyrl-ME", true}, {"sr-ME", "sr-Latn-ME", true}, {"xx-Hant", "xx-Hant-TW", true}, {"und-419", "es-Latn-419", true},
		// Another Lang alone, another Script alone, another Region alone.
		{"de-US", "en-Latn-US", false}, {"de-Latn-US", "en-Latn-US", false}, {"sr-Cyrl-RU", "ru-Cyrl-RU", false}, {"und-Hant", "xx-Hant-TW", false},
		{"sr", "sr-Latn-RS", false}, {"en-Cyrl", "en-Latn-US", false}, {"zh-Hans-TW", "zh-Hant-TW", false}, {"sr-RS", "sr-Latn-RS", false},
		{"en-GB", "en-Latn-US", false}, {"zh-Hant", "zh-Hant-HK", false}, {"es", "es-Latn-419", false}, {"zh-Hans-TW", "zh-Hans-CN", false},
		{"zh", "zh-Hant-TW", false}, {"en", "ru-Cyrl-RU", false},
		// It is what full says, not what that is in full.
		{"en", "en", false}, {"en", "und", false}, {"und", "und", false}, {"en-Latn-US", "en-US", false}, {"en", "en-Latn", false}, {"zh-TW", "zh-TW", false}, {"zh-Hant-TW", "zh-TW", false}, {"en-Latn-US", "und-Latn-US", false},
		// No row, whatever full says.
		{"xx", "xx", false}, {"xx-Latn-US", "xx-Latn-US", false}, {"i-klingon", "i-klingon", false}, {"x-en", "x-en", false}, {"xx", "en-Latn-US", false}, {"x-en", "en-Latn-US", false}, {"en-GB-oed", "en-Latn-GB", false},
	} {
		holdSays(t, im, of(x.less), of(x.full), x.want)
		if again := saysAgain(im, of(x.less), of(x.full)); again != x.want {
			t.Errorf("%s, %s: %t", x.less, x.full, again)
		}
		// No other field counts, on either side.
		holdSays(t, im, laden(of(x.less)), of(x.full), x.want)
		holdSays(t, im, of(x.less), laden(of(x.full)), x.want)
		holdSays(t, im, laden(of(x.less)), laden(of(x.full)), x.want)
		// Without any row nothing says anything.
		holdSays(t, api.Image{}, of(x.less), of(x.full), false)
		holdSays(t, api.Image{Likely: []api.Likely{}}, of(x.less), of(x.full), false)
	}
	for _, x := range []api.Tag{{}, laden(api.Tag{}), fields("- latn us"), fields("xx - -")} {
		holdSays(t, im, x, x, false)
		holdSays(t, im, x, of("en-Latn-US"), false)
		holdSays(t, im, of("en"), x, false)
	}
	holdSays(t, im, of("zh-yue-HK-u-co"), of("zh-cmn-Hant-HK-1994-x-a"), true)
}

// P19.1: tags and images that may not be: texts as they stand, targets that are empty, or no such thing.
func TestSaysWrong(t *testing.T) {
	im := with("en - - - - -", "und - - - - -", "fr - - x - fr", "de - - x latn -", "EN - - a Latn US", "xx latn - und - us", "und latn - und - us", "und cyrl - UND - ru", "\xff é - f ffff \x00", "und und - und und und")
	for _, x := range []struct {
		less, full string
		want       bool
	}{
		{"en - -", "en - -", true}, {"en latn us", "en latn us", true}, {"en - us", "en - us", true}, {"en - us", "en - -", false}, {"en latn us", "en - us", false}, {"en - -", "en latn us", false},
		// An empty target of `und` leaves no Lang, and that is what is held.
		{"und - -", "- - -", true}, {"und - us", "- - us", true}, {"und - -", "und - -", false}, {"- - -", "- - -", false}, {"- - us", "- - us", false},
		{"fr - -", "fr - fr", true}, {"fr - -", "fr - -", false}, {"de - -", "de latn -", true}, {"de - at", "de latn at", true}, {"de - at", "de latn -", false},
		{"EN - -", "EN Latn US", true}, {"EN - -", "EN latn us", false}, {"EN - -", "en Latn US", false}, {"EN - -", "EN Latn us", false}, {"EN latn us", "EN latn us", true}, {"En - -", "EN Latn US", false}, {"en - -", "EN Latn US", false},
		{"xx latn -", "xx latn us", true}, {"und latn -", "und latn us", true}, {"und latn -", "xx latn us", false}, {"und cyrl -", "UND cyrl ru", true}, {"und cyrl -", "und cyrl ru", false},
		{"\xff é -", "\xff é \x00", true}, {"\xff é -", "\xff é -", false}, {"\xff - -", "\xff - -", false}, {"und und -", "und und und", true},
	} {
		holdSays(t, im, fields(x.less), fields(x.full), x.want)
		holdSays(t, im, laden(fields(x.less)), laden(fields(x.full)), x.want)
		im.Aliases, im.Rules, im.Members, im.Threshold, im.Demote = []api.Alias{{Kind: -1}}, []api.Rule{{Level: 9}}, []api.Member{{}}, -1, 1<<40
	}
}

// P19.1: it agrees with what the chapter says of all pairs of tags of some texts.
func TestSaysAgrees(t *testing.T) {
	im := with("en - - en latn us", "und - - xx cyrl us", "en cyrl - en cyrl gb", "en - gb en cyrl gb", "und cyrl - en - us", "xx - - - - gb")
	langs, scripts, regions := []string{"", "en", "und", "xx"}, []string{"", "latn", "cyrl"}, []string{"", "us", "gb"}
	yes, no := 0, 0
	mixed(langs, scripts, regions, func(less api.Tag) {
		mixed(langs, scripts, regions, func(full api.Tag) {
			want := saysAgain(im, less, full)
			if got := minimal.Says(im, less, full); got != want {
				t.Errorf("Says(%s, %s): %t", said(less), said(full), got)
			}
			if want {
				yes++
			} else {
				no++
			}
		})
	})
	if yes < 20 || no < 1000 {
		t.Error("just", yes, no)
	}
}

// P1: long texts, and long rows.
func TestSaysLong(t *testing.T) {
	im, x := with("und - - en latn us"), longTag()
	if minimal.Says(im, x, x) {
		t.Error("there is no row of it")
	}
	im.Likely = append(im.Likely, api.Likely{L: x.Lang, ToL: "a", ToS: "b", ToR: x.Region})
	full := fields("- b -")
	full.Lang, full.Region = x.Lang, x.Region
	less := x
	less.Script, less.Region = "", ""
	if !minimal.Says(im, less, full) || minimal.Says(im, x, full) || !minimal.Says(im, x, x) {
		t.Error("of long texts")
	}
}
