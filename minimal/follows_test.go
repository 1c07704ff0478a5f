package minimal_test

import (
	"testing"

	"isogloss/api"
	"isogloss/canon"
	"isogloss/check"
	"isogloss/data"
	"isogloss/likely"
	"isogloss/minimal"
	"isogloss/tag"
)

// follows holds what follows of an image that may be used, and a right tag: what is least. It tells whether there is one in full.
func follows(t *testing.T, im api.Image, x api.Tag, script bool) bool {
	t.Helper()
	if !tag.Right(x) {
		return false
	}
	full, there := likely.Maximize(im, x)
	least, ok := minimal.Minimize(im, x, script)
	if ok != there {
		t.Errorf("Minimize(%s, %t): %t", said(x), script, ok)
	}
	if !there {
		if !tag.Same(least, x) {
			t.Errorf("Minimize(%s, %t): not as it was: %s", said(x), script, said(least))
		}
		return false
	}
	if again, ok := likely.Maximize(im, least); !ok || !tag.Same(again, full) {
		t.Errorf("Minimize(%s, %t): %s is not as full as it was: %s, %t, want %s", said(x), script, said(least), said(again), ok, said(full))
	}
	if again, ok := minimal.Minimize(im, least, script); !ok || !tag.Same(again, least) {
		t.Errorf("Minimize(%s, %t): %s is not least, but %s, %t", said(x), script, said(least), said(again), ok)
	}
	for _, field := range [][2]string{{least.Script, full.Script}, {least.Region, full.Region}} {
		if field[0] != "" && field[0] != field[1] {
			t.Errorf("Minimize(%s, %t): %s is more than %s", said(x), script, field[0], field[1])
		}
	}
	rest := least
	rest.Script, rest.Region = full.Script, full.Region
	if !tag.Same(rest, full) {
		t.Errorf("Minimize(%s, %t): of the other fields some are not as in %s: %s", said(x), script, said(full), said(least))
	}
	if !minimal.Says(im, least, full) || !minimal.Says(im, x, full) || !minimal.Says(im, full, full) {
		t.Errorf("Minimize(%s, %t): not all says what %s does", said(x), script, said(full))
	}
	if want, _ := minimizeAgain(im, x, script); !tag.Same(least, want) {
		t.Errorf("Minimize(%s, %t): %s, want %s", said(x), script, said(least), said(want))
	}
	return true
}

// usable is an image with these likely rows, and what else it takes to be used.
func usable(all ...string) api.Image {
	im := data.Image()
	im.Likely = with(all...).Likely
	return im
}

// pool are likely rows from which images are made; some of them take others of them.
func pool() []string {
	return []string{
		"en - - en latn us", "en - - zh hant tw", "zh - - en cyrl ru", "und - - zh hans cn", "und - us en latn gb", "und latn - en cyrl us", "und latn us zh latn us",
		"en latn - xx hant tw", "xx - - xx thai th", "en - us zh shaw us", "en latn us en cyrl ru", "zh hant tw en latn us", "xx cyrl - zh latn tw",
	}
}

// tags are of many kinds: each Lang with each Script and Region, and more behind.
func tags() []api.Tag {
	all := []api.Tag{of("x-en"), of("x-und-latn"), of("i-klingon"), of("zh-min-nan"), of("en-GB-oed"), {}}
	mixed([]string{"en", "und", "xx", "zh", "yy"}, []string{"", "latn", "cyrl", "hant"}, []string{"", "us", "tw", "419"}, func(x api.Tag) {
		all = append(all, x)
		more := tag.Clone(x)
		more.Variants, more.Exts, more.Private = []string{"scouse", "1994"}, of("en-u-und-co-t-und-latn").Exts, []string{"und", "us"}
		all = append(all, more)
		if x.Lang != "en" {
			more = tag.Clone(x)
			more.Extlang = []string{"yue", "und"}
			all = append(all, more)
		}
	})
	return all
}

// P19.3: by images that may be used, of all rows of the pool that go together.
func TestFollowsImages(t *testing.T) {
	rows, all := pool(), tags()
	images, least := 0, 0
	for set := range 1 << len(rows) {
		var some []string
		for at, s := range rows {
			if set>>at&1 != 0 {
				some = append(some, s)
			}
		}
		im := usable(some...)
		if check.Check(im) != nil {
			continue
		}
		// Each image has others of the tags, each tag some of the images.
		for i := images % 7; i < len(all); i += 7 {
			for _, script := range bools() {
				if follows(t, im, all[i], script) {
					least++
				}
			}
		}
		images++
	}
	if images < 1000 || least < 20000 {
		t.Error("just", images, least)
	}
}

// P19.3: by the image that is handed out, of tags of all kinds, and of all that its own rows tell.
func TestFollowsHandedOut(t *testing.T) {
	im := data.Image()
	if e := check.Check(im); e != nil {
		t.Fatal(e)
	}
	for _, script := range bools() {
		least := 0
		for s, told := range handedOut() {
			x := of(s)
			if got := follows(t, im, x, script); got != (told != "") {
				t.Errorf("%s: %t", s, got)
			}
			follows(t, im, canon.Canonical(im, x), script)
		}
		for _, x := range tags() {
			follows(t, im, x, script)
		}
		langs, scripts, regions := []string{"und", "xx"}, []string{"", "thai"}, []string{"", "zz"}
		for at, x := range im.Likely {
			// Each second one is enough of all but the languages.
			langs = append(langs, x.L)
			if at%2 == 0 {
				scripts, regions = append(scripts, x.ToS), append(regions, x.ToR)
			}
		}
		mixed(langs, scripts, regions, func(x api.Tag) {
			if follows(t, im, x, script) {
				least++
			}
		})
		if least < 5000 {
			t.Error("just", least)
		}
	}
}

// P19.3: of a tag whose least one has the text of a grandfathered one: its fields are least all the same.
func TestFollowsGrandText(t *testing.T) {
	im := data.Image()
	for s, want := range map[string]api.Tag{
		"zh-Hans-guoyu": {Lang: "zh", Variants: []string{"guoyu"}},
		"zh-CN-xiang":   {Lang: "zh", Variants: []string{"xiang"}},
		"zh-min-Hans":   {Lang: "zh", Extlang: []string{"min"}},
	} {
		for _, script := range bools() {
			hold(t, im, of(s), script, want, true)
			hold(t, im, want, script, want, true)
			if !follows(t, im, of(s), script) {
				t.Errorf("%s is not right, or not in full", s)
			}
			if tag.Right(want) {
				t.Errorf("%s: its text is that of a grandfathered one", said(want))
			}
		}
	}
}
