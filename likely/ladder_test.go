package likely_test

import (
	"slices"
	"strings"
	"testing"

	"isogloss/api"
	"isogloss/likely"
)

// ladders are tags' Lang, Script and Region, and the rows of their ladders.
func ladders() map[string]string {
	return map[string]string{
		// All five, and what goes where a field is missing.
		"en latn us": "en latn us; en - us; en latn -; en - -; und latn -",
		"en - us":    "en - us; en - -",
		"en latn -":  "en latn -; en - -; und latn -",
		"en - -":     "en - -",
		// What is there twice is told once.
		"und latn us": "und latn us; und - us; und latn -; und - -",
		"und - us":    "und - us; und - -",
		"und latn -":  "und latn -; und - -",
		"und - -":     "und - -",
		// No Lang, no ladder.
		"- - -": "", "- latn us": "", "- - us": "", "- latn -": "",
		// Texts as they stand, whatever they are.
		"UND LATN US": "UND LATN US; UND - US; UND LATN -; UND - -; und LATN -", "Und Latn -": "Und Latn -; Und - -; und Latn -", "EN Latn us": "EN Latn us; EN - us; EN Latn -; EN - -; und Latn -",
		"und und und": "und und und; und - und; und und -; und - -", "und und -": "und und -; und - -", "en und und": "en und und; en - und; en und -; en - -; und und -", "en en en": "en en en; en - en; en en -; en - -; und en -",
		"* $amer !amer": "* $amer !amer; * - !amer; * $amer -; * - -; und $amer -", "no-such 日本 \xff": "no-such 日本 \xff; no-such - \xff; no-such 日本 -; no-such - -; und 日本 -", "u \x00 -": "u \x00 -; u - -; und \x00 -",
	}
}

// P18.1: ladders of all kinds.
func TestLadder(t *testing.T) {
	for s, want := range ladders() {
		holdLadder(t, fields(s), rungs(want))
		holdLadder(t, laden(fields(s)), rungs(want))
		if again := ladderAgain(fields(s)); !slices.Equal(again, rungs(want)) {
			t.Errorf("%s: %q", s, again)
		}
	}
}

// P18.1: of tags of texts: nothing but Lang, Script and Region shows.
func TestLadderTexts(t *testing.T) {
	for s, want := range map[string]string{
		"zh-TW": "zh - tw; zh - -", "und-Cyrl": "und cyrl -; und - -", "en-Shaw": "en shaw -; en - -; und shaw -", "zh-yue-Hant-HK": "zh hant hk; zh - hk; zh hant -; zh - -; und hant -",
		"de-1996-u-co-phonebk-x-a": "de - -", "es-419-x-latn-us": "es - 419; es - -", "und-t-und-cyrl": "und - -",
		"x-en-latn-us": "", "i-klingon": "", "zh-min-nan": "", "en-GB-oed": "",
	} {
		holdLadder(t, of(s), rungs(want))
	}
	for _, x := range []api.Tag{{}, {Grand: "i-klingon"}, {Private: []string{"en", "latn"}}, {Variants: []string{"en"}}, {Extlang: []string{"cmn"}}, {Exts: []api.Ext{{Key: "u", Subs: []string{"und"}}}}} {
		holdLadder(t, x, nil)
		x.Script, x.Region = "latn", "us"
		holdLadder(t, x, nil)
	}
}

// P18.1: it agrees with what the chapter says of all tags of some texts.
func TestLadderAgrees(t *testing.T) {
	texts := []string{"", "und", "Und", "en", "latn", "us", "x", " ", "-"}
	mixed(texts, texts, texts, func(x api.Tag) { holdLadder(t, x, ladderAgain(x)) })
	long := strings.Repeat("und", 1<<18)
	mixed([]string{long, "und"}, []string{long, ""}, []string{long, "us"}, func(x api.Tag) {
		if got, want := slices.Collect(likely.Ladder(x)), ladderAgain(x); !slices.Equal(got, want) {
			t.Errorf("%d rows, want %d", len(got), len(want))
		}
	})
}

// R3: what is told later hangs on what was handed in, whatever becomes of that.
func TestLadderKept(t *testing.T) {
	x := laden(fields("en latn us"))
	ladder := likely.Ladder(x)
	x.Lang, x.Script, x.Region = "und", "", "gb"
	spoil(x)
	for range 2 {
		if got, want := slices.Collect(ladder), rungs(ladders()["en latn us"]); !slices.Equal(got, want) {
			t.Errorf("%q, want %q", got, want)
		}
	}
}

// P18.1: Lang that is not `und`, Script and Region are there, or are not.
func TestFull(t *testing.T) {
	for s, want := range map[string]bool{
		"en latn us": true, "zh hant tw": true, "es latn 419": true, "zxx zzzz zz": true, "root latn us": true,
		"und latn us": false, "- latn us": false, "en - us": false, "en latn -": false,
		"en - -": false, "- latn -": false, "- - us": false, "und - us": false, "und latn -": false, "und - -": false, "- - -": false,
		// Texts as they stand, whatever they are.
		"UND latn us": true, "Und latn us": true, "unds latn us": true, "un latn us": true, "EN Latn US": true, "en und und": true, "en us latn": true, "* $ !": true, "\xff \x00 é": true,
	} {
		x := fields(s)
		asked := said(x)
		for range 2 {
			if got := likely.Full(x); got != want {
				t.Errorf("Full(%s): %t", s, got)
			}
			if got := likely.Full(laden(x)); got != want {
				t.Errorf("Full(%s) with all else: %t", s, got)
			}
		}
		if said(x) != asked {
			t.Errorf("Full(%s) has changed it to %s", asked, said(x))
		}
	}
	for s, want := range map[string]bool{"sr-Latn-RS": true, "sr-Latn-RS-ekavsk-u-co-x-a": true, "zh-yue-Hant-HK": true, "sr-RS": false, "und-Latn-RS": false, "x-sr-latn-rs": false, "i-klingon": false, "sgn-BE-FR": false} {
		if got := likely.Full(of(s)); got != want {
			t.Errorf("Full(%s): %t", s, got)
		}
	}
}
