package likely_test

import (
	"strings"
	"testing"

	"isogloss/api"
	"isogloss/canon"
	"isogloss/check"
	"isogloss/data"
	"isogloss/likely"
	"isogloss/tag"
)

// follows holds what follows of an image that may be used, and a right tag: what is full. It tells whether that is.
func follows(t *testing.T, im api.Image, x api.Tag) bool {
	t.Helper()
	if !tag.Right(x) {
		return false
	}
	full, ok := likely.Maximize(im, x)
	if !ok {
		if !tag.Same(full, x) {
			t.Errorf("Maximize(%s): not as it was: %s", said(x), said(full))
		}
		return false
	}
	if !likely.Full(full) {
		t.Errorf("Maximize(%s) is not full: %s", said(x), said(full))
	}
	if again, ok := likely.Maximize(im, full); !ok || !tag.Same(again, full) {
		t.Errorf("Maximize(%s): %s is not so in full, but %s, %t", said(x), said(full), said(again), ok)
	}
	for _, field := range [][2]string{{x.Lang, full.Lang}, {x.Script, full.Script}, {x.Region, full.Region}} {
		if field[0] != "" && field[0] != "und" && field[0] != field[1] {
			t.Errorf("Maximize(%s): %s is %s", said(x), field[0], field[1])
		}
	}
	rest := full
	rest.Lang, rest.Script, rest.Region = x.Lang, x.Script, x.Region
	if !tag.Same(rest, x) {
		t.Errorf("Maximize(%s): of the other fields some did not stay: %s", said(x), said(full))
	}
	if want, there := maximizeAgain(im, x); !there || !tag.Same(full, want) {
		t.Errorf("Maximize(%s): %s, want %s", said(x), said(full), said(want))
	}
	return true
}

// usable is an image with these likely rows, and what else it takes to be used.
func usable(all ...string) api.Image {
	im := data.Image()
	im.Likely = with(all...).Likely
	return im
}

// pool are likely rows from which images are made; some of them take others of them.
func pool() []string {
	return []string{
		"en - - en latn us", "en - - zh hant tw", "zh - - en cyrl ru", "und - - zh hans cn", "und - us en latn gb", "und latn - en cyrl us", "und latn us zh latn us",
		"en latn - xx hant tw", "xx - - xx thai th", "en - us zh shaw us", "en latn us en cyrl ru", "zh hant tw en latn us", "xx cyrl - zh latn tw",
	}
}

// tags are of many kinds: each Lang with each Script and Region, and more behind.
func tags() []api.Tag {
	all := []api.Tag{of("x-en"), of("x-und-latn"), of("i-klingon"), of("zh-min-nan"), of("en-GB-oed"), {}}
	mixed([]string{"en", "und", "xx", "zh", "yy"}, []string{"", "latn", "cyrl", "hant"}, []string{"", "us", "tw", "419"}, func(x api.Tag) {
		all = append(all, x)
		more := tag.Clone(x)
		more.Variants, more.Exts, more.Private = []string{"scouse", "1994"}, of("en-u-und-co-t-und-latn").Exts, []string{"und", "us"}
		all = append(all, more)
		if x.Lang != "en" {
			more = tag.Clone(x)
			more.Extlang = []string{"yue", "und"}
			all = append(all, more)
		}
	})
	return all
}

// P18.3: by images that may be used, of all rows of the pool that go together.
func TestFollowsImages(t *testing.T) {
	rows, all := pool(), tags()
	images, full := 0, 0
	for set := range 1 << len(rows) {
		var some []string
		for at, s := range rows {
			if set>>at&1 != 0 {
				some = append(some, s)
			}
		}
		im := usable(some...)
		if check.Check(im) != nil {
			continue
		}
		// Each image has others of the tags, each tag some of the images.
		for i := images % 7; i < len(all); i += 7 {
			if follows(t, im, all[i]) {
				full++
			}
		}
		images++
	}
	if images < 1000 || full < 10000 {
		t.Error("just", images, full)
	}
}

// P18.3: by the image that is handed out, of tags of all kinds, and of all that its own rows tell.
func TestFollowsHandedOut(t *testing.T) {
	im := data.Image()
	if e := check.Check(im); e != nil {
		t.Fatal(e)
	}
	full := 0
	for s := range handedOut() {
		x := of(s)
		if got := follows(t, im, x); got != (handedOut()[s] != "") {
			t.Errorf("%s: %t", s, got)
		}
		follows(t, im, canon.Canonical(im, x))
	}
	for _, x := range tags() {
		follows(t, im, x)
	}
	langs, scripts, regions := []string{"und", "xx"}, []string{"", "thai"}, []string{"", "zz"}
	for _, x := range im.Likely {
		langs, scripts, regions = append(langs, x.L), append(scripts, x.ToS), append(regions, x.ToR)
	}
	mixed(langs, scripts, regions, func(x api.Tag) {
		if follows(t, im, x) {
			full++
		}
		if _, ok := likely.Maximize(im, x); !ok && x.Lang != "xx" {
			t.Errorf("%s is not in full", said(x))
		}
	})
	if full < 10000 {
		t.Error("just", full)
	}
}

// P18.3: a Lang of which there is no row stays full by its Script, and `und` that is full is so by what it has become.
func TestFollowsStays(t *testing.T) {
	im := usable("und - - aa latn us", "aa cyrl - bb grek de", "aa - gb bb grek gb", "aa - - bb grek de", "bb - - aa hans cn", "und hant - aa hans cn")
	if e := check.Check(im); e != nil {
		t.Fatal(e)
	}
	for s, want := range map[string]string{"und": "aa-Latn-US", "und-GB": "aa-Latn-GB", "und-Cyrl": "aa-Cyrl-US", "und-Hant": "aa-Hant-CN", "cc-Hant": "cc-Hant-CN", "cc-Hant-GB": "cc-Hant-GB", "aa": "aa-Grek-DE", "aa-GB": "aa-Grek-GB", "aa-Cyrl": "aa-Cyrl-DE", "aa-Cyrl-GB": "aa-Cyrl-GB", "bb-Hant": "bb-Hant-CN", "bb": "bb-Hans-CN"} {
		hold(t, im, of(s), of(want), true)
		hold(t, im, of(want), of(want), true)
		if !follows(t, im, of(s)) || !likely.Full(of(want)) {
			t.Errorf("%s is not full", s)
		}
	}
	for _, s := range []string{"cc", "cc-GB", "cc-Cyrl", "cc-Latn-US", "x-hant"} {
		hold(t, im, of(s), of(s), false)
		if follows(t, im, of(s)) {
			t.Errorf("%s is full", s)
		}
	}
	// What has all three may have no row for all that.
	if !likely.Full(of(strings.ToLower("cc-Latn-US"))) {
		t.Error("cc-Latn-US has all three")
	}
}
