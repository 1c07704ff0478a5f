package minimal_test

import (
	"strings"
	"testing"

	"isogloss/api"
	"isogloss/minimal"
	"isogloss/tag"
)

// trials are tags' Lang, Script and Region, and those of their trials, without script, with `;` between.
func trials() map[string]string {
	return map[string]string{
		"zh hant tw": "zh - -; zh - tw; zh hant -; zh hant tw",
		"en latn us": "en - -; en - us; en latn -; en latn us",
		// All four are told, also where some of them are the same.
		"en - us":     "en - -; en - us; en - -; en - us",
		"en latn -":   "en - -; en - -; en latn -; en latn -",
		"en - -":      "en - -; en - -; en - -; en - -",
		"- - -":       "- - -; - - -; - - -; - - -",
		"- latn us":   "- - -; - - us; - latn -; - latn us",
		"- latn -":    "- - -; - - -; - latn -; - latn -",
		"- - us":      "- - -; - - us; - - -; - - us",
		"und cyrl ru": "und - -; und - ru; und cyrl -; und cyrl ru",
		"und - -":     "und - -; und - -; und - -; und - -",
		// Texts as they stand, whatever they are.
		"EN Latn US": "EN - -; EN - US; EN Latn -; EN Latn US", "us us us": "us - -; us - us; us us -; us us us", "\xff \x00 日本-é": "\xff - -; \xff - 日本-é; \xff \x00 -; \xff \x00 日本-é",
	}
}

// inOrder are the tags of what a row of trials says; with script those in the middle are turned.
func inOrder(s string, script bool) []api.Tag {
	var all []api.Tag
	for _, part := range strings.Split(s, ";") {
		all = append(all, fields(part))
	}
	if script {
		all[1], all[2] = all[2], all[1]
	}
	return all
}

// P19.1: four trials of each tag, in order; nothing but Script and Region is ever left out.
func TestTrials(t *testing.T) {
	for s, all := range trials() {
		for _, script := range bools() {
			want := inOrder(all, script)
			holdTrials(t, fields(s), script, want)
			for at := range want {
				want[at] = laden(want[at])
			}
			holdTrials(t, laden(fields(s)), script, want)
		}
	}
}

// P19.1: of tags of texts.
func TestTrialsTexts(t *testing.T) {
	for s, want := range map[string][4]string{
		"zh-Hant-TW":  {"zh", "zh-TW", "zh-Hant", "zh-Hant-TW"},
		"es-Latn-419": {"es", "es-419", "es-Latn", "es-Latn-419"},
		"zh-yue-Hant-HK-u-co-t-en-latn-us-x-tw-a": {"zh-yue-u-co-t-en-latn-us-x-tw-a", "zh-yue-HK-u-co-t-en-latn-us-x-tw-a", "zh-yue-Hant-u-co-t-en-latn-us-x-tw-a", "zh-yue-Hant-HK-u-co-t-en-latn-us-x-tw-a"},
		"sl-Latn-IT-nedis-1994":                   {"sl-nedis-1994", "sl-IT-nedis-1994", "sl-Latn-nedis-1994", "sl-Latn-IT-nedis-1994"},
		"de-AT":                                   {"de", "de-AT", "de", "de-AT"},
		"sr-Cyrl":                                 {"sr", "sr", "sr-Cyrl", "sr-Cyrl"},
		"i-klingon":                               {"i-klingon", "i-klingon", "i-klingon", "i-klingon"},
		"en-GB-oed":                               {"en-GB-oed", "en-GB-oed", "en-GB-oed", "en-GB-oed"},
		"x-en-latn-us":                            {"x-en-latn-us", "x-en-latn-us", "x-en-latn-us", "x-en-latn-us"},
		"und-u-und-latn-us":                       {"und-u-und-latn-us", "und-u-und-latn-us", "und-u-und-latn-us", "und-u-und-latn-us"},
		strings.Repeat("a", 8) + "-" + "Zzzz" + "-ZZ": {"aaaaaaaa", "aaaaaaaa-ZZ", "aaaaaaaa-Zzzz", "aaaaaaaa-Zzzz-ZZ"},
	} {
		all := []api.Tag{of(want[0]), of(want[1]), of(want[2]), of(want[3])}
		holdTrials(t, of(s), false, all)
		all[1], all[2] = all[2], all[1]
		holdTrials(t, of(s), true, all)
	}
}

// P19.1: they are what the chapter says of all tags of some texts.
func TestTrialsAgree(t *testing.T) {
	texts := []string{"", "und", "en", "latn", "us", "EN", "-"}
	mixed(texts, texts, texts, func(x api.Tag) {
		for _, script := range bools() {
			holdTrials(t, x, script, trialsAgain(x, script))
			holdTrials(t, laden(x), script, trialsAgain(laden(x), script))
		}
	})
}

// R3: what is told later hangs on what was handed in, whatever becomes of that, ahead of the walk or within it.
func TestTrialsKept(t *testing.T) {
	for _, script := range bools() {
		want := trialsAgain(laden(fields("en latn us")), script)
		x := laden(fields("en latn us"))
		told := minimal.Trials(x, script)
		x.Lang, x.Script, x.Region, x.Grand = "und", "", "gb", ""
		for range 2 {
			at := 0
			for less := range told {
				if at >= len(want) || !tag.Same(less, want[at]) {
					t.Fatalf("%d of Trials: %s", at, said(less))
				}
				spoil(x)
				at++
			}
			if at != len(want) {
				t.Errorf("%d trials", at)
			}
		}
	}
	// Rows with room behind their end: what is told is not written there.
	room := strings.Fields("a b c d e f")
	x := api.Tag{Lang: "en", Script: "latn", Region: "us", Extlang: room[0:1:2], Variants: room[1:2], Private: room[2:4], Exts: []api.Ext{{Key: "u", Subs: room[0:5]}, {Key: "a", Subs: room[3:4:6]}}}
	asked := said(x)
	for less := range minimal.Trials(x, false) {
		if spoil(less) || said(x) != asked || strings.Join(room, " ") != "a b c d e f" {
			t.Errorf("%s, %q", said(x), room)
		}
	}
}

// P1: a long tag.
func TestTrialsLong(t *testing.T) {
	x := longTag()
	for _, script := range bools() {
		want, at := trialsAgain(x, script), 0
		for less := range minimal.Trials(x, script) {
			if at >= len(want) || !tag.Same(less, want[at]) {
				t.Error("trial", at)
			}
			at++
		}
		if at != len(want) {
			t.Error(at, "trials")
		}
	}
}

// longTag has long texts, and long rows.
func longTag() api.Tag {
	const many = 100000
	x := api.Tag{Lang: strings.Repeat("und", many), Script: strings.Repeat("latn", many), Region: strings.Repeat("us", many), Variants: make([]string, many), Exts: make([]api.Ext, many), Private: make([]string, many)}
	for i := range many {
		x.Variants[i], x.Exts[i], x.Private[i] = "fonipa", api.Ext{Key: "a", Subs: []string{"bb"}}, "x"
	}
	return x
}
