package rewrite_test

import (
	"testing"

	"isogloss/api"
	"isogloss/check"
	"isogloss/data"
	"isogloss/rewrite"
	"isogloss/tag"
)

// usable is an image with these aliases, and what else it takes to be used.
func usable(aliases []api.Alias) api.Image {
	im := data.Image()
	im.Aliases = aliases
	return im
}

// pool are aliases from which images are made, of each kind some that go together, and some that don't.
func pool() []api.Alias {
	return with(
		"grand 22 - hak", "grand 24 - bb hant us", "grand 24 - aa", "pair aa us bb", "pair bb us cc", "pair zh us no", "lang aa - bb latn ru", "lang bb - cc - us", "lang cc - zh", "lang zh - cc hant",
		"script latn - - cyrl", "script cyrl - - hant", "region us - - - ru", "region ru - - - su", "variant 1994 - hakka", "variant hakka", "variant heploc - 1994", "type ca aaa bbb", "type ca bbb ccc", "type co aaa bbb",
	).Aliases
}

// tags are of many kinds: what is called otherwise stands in each of their fields, or doesn't.
func tags() []api.Tag {
	all := []api.Tag{{}, of("zh-hakka"), of("zh-min-nan"), of("i-ami"), of("x-aa")}
	for _, lang := range []string{"aa", "bb", "cc", "zh", "dd"} {
		for _, ext := range [][]string{nil, {"aa"}, {"bb", "aa"}} {
			for _, script := range []string{"", "latn", "cyrl", "hebr"} {
				for _, region := range []string{"", "us", "ru", "de"} {
					for _, row := range [][]string{nil, {"hakka"}, {"heploc", "fonipa", "1994"}, {"1994", "hakka", "heploc"}} {
						for _, u := range []string{"", "ca aaa", "co aaa kk ca bbb"} {
							x := extensions()
							if u != "" {
								x = extensions("a aaa", "u "+u)
							}
							if len(row) == 1 {
								x.Private = nil
							}
							x.Lang, x.Extlang, x.Script, x.Region, x.Variants = lang, ext, script, region, row
							all = append(all, x)
						}
					}
				}
			}
		}
	}
	return all
}

// images are made of the aliases of the pool: each by itself, each two, each but one, and from each on.
func images() []api.Image {
	all := pool()
	out := []api.Image{{}, {Aliases: all}}
	for i, a := range all {
		out = append(out, api.Image{Aliases: []api.Alias{a}}, api.Image{Aliases: append(append([]api.Alias{}, all[:i]...), all[i+1:]...)}, api.Image{Aliases: append(append([]api.Alias{}, all[i:]...), all[:i]...)})
		for _, b := range all[:i] {
			out = append(out, api.Image{Aliases: []api.Alias{a, b}})
		}
	}
	return out
}

// P16.1, P16.2: all tags of the row by all images of the row, right or not.
func TestAll(t *testing.T) {
	all := tags()
	for at, im := range images() {
		// Each image has others of the tags, each tag some of the images.
		for i := at % 61; i < len(all); i += 61 {
			hold(t, im, all[i])
		}
	}
	for i := 0; i < len(all); i += 2 {
		hold(t, api.Image{Aliases: pool()}, all[i])
	}
}

// weighs holds, of an image that may be used, what follows of a tag: each step makes it weigh less, and there are less than Trace's most.
func weighs(t *testing.T, im api.Image, x api.Tag) {
	t.Helper()
	now, count, weight := x, 0, check.Weight(im, x)
	for number, next := range rewrite.Trace(im, x) {
		after := check.Weight(im, next)
		if number >= 0 && im.Aliases[number].Kind <= api.AliasVariant && after >= weight {
			t.Errorf("%s: %d from %s to %s weighs %d, then %d", said(x), number, said(now), said(next), weight, after)
		}
		now, weight = next, after
		count++
	}
	if !rewrite.Done(im, now) || count >= mostAgain(x) {
		t.Errorf("%s: %d steps, up to %s", said(x), count, said(now))
	}
	if _, _, found := rewrite.Step(im, now); found || weight > 0 && !paired(im, now) {
		t.Errorf("%s: %s weighs %d", said(x), said(now), weight)
	}
}

// paired tells whether a tag's language is called otherwise, with another region.
func paired(im api.Image, x api.Tag) bool {
	for _, a := range im.Aliases {
		if a.Kind == api.AliasPair && a.A == x.Lang && a.B != x.Region {
			return true
		}
	}
	return false
}

// P16.3: by images that may be used.
func TestWeighs(t *testing.T) {
	all, used := tags(), 0
	for _, im := range images() {
		im = usable(im.Aliases)
		if check.Check(im) != nil {
			continue
		}
		used++
		for i := used % 7; i < len(all); i += 7 {
			weighs(t, im, all[i])
		}
	}
	if used < 40 {
		t.Error("just", used)
	}
	im := data.Image()
	for _, x := range all {
		weighs(t, im, x)
	}
	for _, a := range im.Aliases {
		for _, b := range im.Aliases {
			x := api.Tag{Lang: "en", Exts: []api.Ext{{Key: "u", Subs: []string{"co", "diction", "ca", "islamicc"}}}}
			for _, c := range []api.Alias{a, b} {
				switch c.Kind {
				case api.AliasGrand:
					x.Variants = []string{"polytoni"}
				case api.AliasPair, api.AliasLang:
					x.Lang, x.Region = c.A, c.B
				case api.AliasScript:
					x.Script = c.A
				case api.AliasRegion:
					x.Region = c.A
				case api.AliasVariant:
					x.Variants = append(x.Variants, c.A)
				case api.AliasType:
					x.Exts[0].Subs = append(x.Exts[0].Subs, c.A, c.B)
				}
			}
			weighs(t, im, x)
			x.Extlang = []string{a.A}
			weighs(t, im, x)
			hold(t, im, x)
		}
	}
}

// P16.3: the most steps that there may be: of each variant one, of each key one, and those of the rest.
func TestWeighsMost(t *testing.T) {
	im := usable(with("variant hakka - 1hakka", "variant 1994", "variant 1995 - 1996", "script latn - - cyrl", "region us - - - ru", "lang aa - bb", "type ca aaa bbb", "type co aaa bbb", "type kk aaa bbb", "lang xx - zh", "grand 22 - hak hant tw").Aliases)
	if e := check.Check(im); e != nil {
		t.Fatal(e)
	}
	x := of("en-aaa-latn-us-hakka-1994-1995-u-ca-aaa-co-aaa-kk-aaa")
	x.Extlang[0] = "aa"
	weighs(t, im, x)
	if got := len(traceAgain(im, x)); got != 10 {
		t.Error(got)
	}
	hold(t, im, x)
	y := api.Tag{Lang: "zh", Extlang: []string{"xx"}, Variants: []string{"hakka"}}
	weighs(t, im, y)
	hold(t, im, y)
	if !tag.Same(last(im, y), of("hak-hant-tw")) {
		t.Error(said(last(im, y)))
	}
}

// last is the tag behind the last step of a tag.
func last(im api.Image, x api.Tag) api.Tag {
	for _, next := range rewrite.Trace(im, x) {
		x = next
	}
	return x
}
