package likely_test

import (
	"slices"
	"strings"
	"testing"

	"isogloss/api"
	"isogloss/data"
	"isogloss/likely"
)

// P18.1: rows that the image that is handed out has, by what its chapter says of them.
func TestFind(t *testing.T) {
	im := data.Image()
	for _, s := range []string{
		"en - - en latn us", "en shaw - en shaw gb", "und - - en latn us", "und - 419 es latn 419", "zh - - zh hans cn", "zh - tw zh hant tw", "zh - hk zh hant hk", "zh hant - zh hant tw", "und hant - zh hant tw",
		"sr - - sr cyrl rs", "sr latn - sr latn rs", "sr - me sr latn me", "und cyrl - ru cyrl ru", "hi latn - hi latn in", "fil - - fil latn ph", "ro - - ro latn ro",
	} {
		want := row(s)
		holdFind(t, im, [3]string{want.L, want.S, want.R}, want, true)
	}
}

// P18.1: each row is found by its L, S and R, and none by those of several rows.
func TestFindAll(t *testing.T) {
	im := data.Image()
	langs, scripts, regions := []string{"", "xx"}, []string{"", "thai"}, []string{"", "xx"}
	for _, x := range im.Likely {
		holdFind(t, im, [3]string{x.L, x.S, x.R}, x, true)
		langs, scripts, regions = append(langs, x.L, x.ToL), append(scripts, x.S, x.ToS), append(regions, x.R, x.ToR)
	}
	for _, all := range []*[]string{&langs, &scripts, &regions} {
		slices.Sort(*all)
		*all = slices.Compact(*all)
	}
	mixed(langs, scripts, regions, func(x api.Tag) {
		want, there := findAgain(im, x.Lang, x.Script, x.Region)
		if got, ok := likely.Find(im, x.Lang, x.Script, x.Region); got != want || ok != there {
			t.Errorf("Find(%s): %+q, %t, want %+q, %t", said(x), got, ok, want, there)
		}
		if got, ok := data.Likely(x.Lang, x.Script, x.Region); got != want || ok != there {
			t.Errorf("data.Likely(%s): %+q, %t, want %+q, %t", said(x), got, ok, want, there)
		}
	})
}

// P18.1: what is not there: the zero row, false.
func TestFindNone(t *testing.T) {
	im := data.Image()
	for _, s := range []string{
		"- - -", "xx - -", "en latn -", "en - us", "en latn us", "zh hant tw", "und latn -", "und - us", "- shaw -", "- - 419", "- hant -", "sr latn me", "de - de",
		// One place on, or one behind the other.
		"- en -", "- - en", "shaw en -", "en - shaw", "und 419 -", "zhhant - -", "zh han t", "zht w -", "zh-hant - -",
		// As they stand.
		"EN - -", "En - -", "en Shaw -", "zh - TW", "UND - -", "e - -", "enx - -", "en\x00 - -", "\xff é 日", "* * *",
	} {
		holdFind(t, im, rung(s), api.Likely{}, false)
		holdFind(t, api.Image{}, rung(s), api.Likely{}, false)
		holdFind(t, api.Image{Likely: []api.Likely{}}, rung(s), api.Likely{}, false)
	}
	long := strings.Repeat("zh", 1<<18)
	for _, asked := range [][3]string{{long, "", ""}, {"zh", long, ""}, {"zh", "", long}, {long, long, long}} {
		if got, ok := likely.Find(im, asked[0], asked[1], asked[2]); got != (api.Likely{}) || ok {
			t.Errorf("%+q, %t of long texts", got, ok)
		}
	}
}

// P18.1: of several rows with the same L, S and R the first, wherever they stand.
func TestFindFirst(t *testing.T) {
	im := with("en - - a a a", "en latn - b b b", "en - - c c c", "en latn us d d d", "en latn - e e e", "en - us f f f", "en latn us g g g", "en - us h h h", "en - - i i i", "und - - j j j", "und - - k k k")
	for _, s := range []string{"en - - a a a", "en latn - b b b", "en latn us d d d", "en - us f f f", "und - - j j j"} {
		want := row(s)
		holdFind(t, im, [3]string{want.L, want.S, want.R}, want, true)
	}
	for at := range im.Likely {
		for _, part := range []api.Image{{Likely: im.Likely[at:]}, {Likely: im.Likely[:at]}} {
			for _, x := range im.Likely {
				want, there := findAgain(part, x.L, x.S, x.R)
				holdFind(t, part, [3]string{x.L, x.S, x.R}, want, there)
			}
		}
	}
	// The first is told also where nothing is said by it.
	for _, s := range []string{"en - - - - -", "- - - en latn us", "- - - - - -"} {
		x := row(s)
		holdFind(t, with("en latn us a b c", s, "en - - en latn gb", "- - - en latn gb"), [3]string{x.L, x.S, x.R}, x, true)
	}
}

// P18.1: rows that may not be are found as they stand.
func TestFindWrong(t *testing.T) {
	all := []string{"EN Latn US A b c", "en latn us - - -", "- latn us x y z", "- - us x y -", "- latn - x - z", "en en en a b c", "\xff é 日 \x00 \xff é", "- - - x y z", "en-us - - no-such und und"}
	im := with(all...)
	im.Threshold, im.Demote = -1, 1<<40
	for _, s := range all {
		want := row(s)
		holdFind(t, im, [3]string{want.L, want.S, want.R}, want, true)
	}
	for _, s := range []string{"en Latn US", "EN latn US", "EN Latn us", "en - us", "en latn -", "en - -", "x y z", "a b c"} {
		holdFind(t, im, rung(s), api.Likely{}, false)
	}
}

// P18.1, P1: one of very many rows.
func TestFindMany(t *testing.T) {
	const many = 300000
	im := api.Image{Likely: make([]api.Likely, many)}
	for i := range im.Likely {
		im.Likely[i] = api.Likely{L: "en", ToL: "of the middle"}
	}
	im.Likely[many-1] = row("en latn - last one there")
	im.Likely[0] = row("en - - first one there")
	for asked, want := range map[[3]string]api.Likely{{"en"}: im.Likely[0], {"en", "latn"}: im.Likely[many-1]} {
		if got, ok := likely.Find(im, asked[0], asked[1], asked[2]); got != want || !ok {
			t.Errorf("Find(%q): %+q, %t", asked, got, ok)
		}
	}
	if got, ok := likely.Find(im, "und", "", ""); got != (api.Likely{}) || ok {
		t.Errorf("%+q, %t", got, ok)
	}
	if got, ok := likely.Maximize(im, fields("en latn us")); said(got) != said(fields("en latn us")) || !ok {
		t.Errorf("%s, %t", said(got), ok)
	}
	if got, ok := likely.Maximize(im, fields("und - us")); said(got) != said(fields("und - us")) || ok {
		t.Errorf("%s, %t", said(got), ok)
	}
}
