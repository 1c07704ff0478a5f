package canon_test

import (
	"slices"
	"strings"
	"testing"

	"isogloss/api"
	"isogloss/canon"
	"isogloss/check"
	"isogloss/data"
	"isogloss/parse"
	"isogloss/render"
	"isogloss/rewrite"
	"isogloss/tag"
)

// follows holds what follows of an image that may be used, and a right tag: what is canonical.
func follows(t *testing.T, im api.Image, x api.Tag) {
	t.Helper()
	if !tag.Right(x) {
		return
	}
	now := canon.Canonical(im, x)
	if !tag.Right(now) {
		t.Errorf("Canonical(%s) is not right: %s", said(x), said(now))
	}
	if !rewrite.Done(im, now) {
		t.Errorf("Canonical(%s): a step can be done with %s", said(x), said(now))
	}
	if again := canon.Canonical(im, now); !canon.Is(im, now) || !tag.Same(again, now) || !tag.Same(canon.Order(now), now) {
		t.Errorf("Canonical(%s): %s is called %s itself", said(x), said(now), said(again))
	}
	text := render.String(now)
	if parsed, e := parse.Parse(text); e != nil || !tag.Same(parsed, now) {
		t.Errorf("Canonical(%s): %s is parsed to %s, %v", said(x), text, said(parsed), e)
	}
	if got, e := canon.Text(im, render.String(x)); got != text || e != nil {
		t.Errorf("Text(%s): %s, %v, want %s", render.String(x), got, e, text)
	}
	if got, e := canon.Text(im, text); got != text || e != nil {
		t.Errorf("Text(%s): %s, %v", text, got, e)
	}
	if canon.Is(im, x) != tag.Same(x, now) || !tag.Same(now, canonicalAgain(im, x)) {
		t.Errorf("Canonical(%s): %s, %v, want %s", said(x), said(now), canon.Is(im, x), said(canonicalAgain(im, x)))
	}
}

// usable is an image with these aliases, and what else it takes to be used.
func usable(aliases []api.Alias) api.Image {
	im := data.Image()
	im.Aliases = aliases
	return im
}

// pool are aliases from which images are made, of each kind some that go together, and some that don't.
func pool() []api.Alias {
	return with(
		"grand 22 - hak", "grand 24 - bb hant us", "grand 24 - aa", "pair aa us bb", "pair bb us cc", "pair zh us no", "lang aa - bb latn ru", "lang bb - cc - us", "lang cc - zh", "lang zh - cc hant", "lang aaa - zh", "lang bbb - no",
		"script latn - - cyrl", "script cyrl - - hant", "region us - - - ru", "region ru - - - su", "variant 1994 - hakka", "variant hakka", "variant heploc - 1994", "type ca aaa bbb", "type ca bbb ccc", "type co aaa true", "type co true aaa",
	).Aliases
}

// tags are of many kinds, all of them right: what is called otherwise stands in each of their fields, or doesn't.
func tags() []api.Tag {
	var all []api.Tag
	for _, s := range []string{"zh-hakka", "zh-min-nan", "i-ami", "x-aa", "x-u-ca-aaa", "i-default"} {
		all = append(all, of(s))
	}
	for _, ahead := range []string{"aa", "bb", "zh", "dd", "zh-aaa", "bb-bbb-aaa", "cc-ccc"} {
		for _, script := range []string{"", "-latn", "-hebr"} {
			for _, region := range []string{"", "-us", "-de"} {
				for _, row := range []string{"", "-hakka", "-nyn00", "-heploc-fonipa-1994", "-1994-hakka-heploc"} {
					for _, rest := range []string{"", "-u-ca-aaa", "-z-yy-u-co-aaa-kk-ca-bbb-foo-bar-t-en-scouse-fonipa-m0-zz-a0-x-b-a", "-t-h0-u-foo-foo-co-true-ca-aaa-ca-ccc-co-aaa", "-u-true-t-zh-min", "-x-aa-u"} {
						all = append(all, of(ahead+script+region+row+rest))
					}
				}
			}
		}
	}
	return all
}

// images are made of the aliases of the pool, as far as they may be used: each by itself, each two, each but one, and from each on.
func images(t *testing.T) []api.Image {
	all := pool()
	rows := [][]api.Alias{nil, all}
	for i, a := range all {
		rows = append(rows, []api.Alias{a}, append(slices.Clone(all[:i]), all[i+1:]...), all[i:], all[:i])
		for j := range i {
			rows = append(rows, []api.Alias{a, all[j]})
			for k := range j {
				rows = append(rows, []api.Alias{all[k], a, all[j]})
			}
		}
	}
	var out []api.Image
	for _, row := range rows {
		if im := usable(row); check.Check(im) == nil {
			out = append(out, im)
		}
	}
	if len(out) < 300 {
		t.Fatal("just", len(out))
	}
	return out
}

// P17.3: by images that may be used.
func TestFollowsImages(t *testing.T) {
	all := tags()
	for at, im := range images(t) {
		// Each image has others of the tags, each tag some of the images.
		for i := at % 127; i < len(all); i += 127 {
			follows(t, im, all[i])
		}
	}
}

// P17.3: by the image that is handed out: of each two of its aliases a tag that is called otherwise by both.
func TestFollowsHandedOut(t *testing.T) {
	im := data.Image()
	for _, x := range tags() {
		follows(t, im, x)
	}
	for s := range orders() {
		follows(t, im, of(s))
	}
	for s := range names() {
		follows(t, im, of(s))
	}
	for _, a := range im.Aliases {
		for _, b := range im.Aliases {
			x := api.Tag{Lang: "en", Exts: []api.Ext{extension("u co diction ca islamicc kb yes ca buddhist foo"), extension("t it m0"), extension("a bb")}, Private: []string{"u"}}
			var types []string
			for _, c := range []api.Alias{a, b} {
				switch c.Kind {
				case api.AliasPair, api.AliasLang:
					x.Lang, x.Region = c.A, c.B
				case api.AliasScript:
					x.Script = c.A
				case api.AliasRegion:
					x.Region = c.A
				case api.AliasVariant:
					x.Variants = append(x.Variants, c.A, c.L)
				case api.AliasType:
					types = append(types, c.A, c.B)
				}
			}
			x.Variants = slices.Compact(x.Variants)
			x.Exts[0].Subs = append(types, x.Exts[0].Subs...)
			if len(x.Variants) > 2 && x.Variants[0] == x.Variants[2] {
				x.Variants = x.Variants[:2]
			}
			if !tag.Right(x) {
				t.Fatal(said(x))
			}
			follows(t, im, x)
			if len(a.A) == 3 && len(x.Lang) < 4 {
				x.Extlang = []string{a.A, "zzz"}
				follows(t, im, x)
			}
		}
	}
}

// P17.3: all grandfathered tags, by images with and without an alias of each.
func TestFollowsGrand(t *testing.T) {
	texts := strings.Fields("art-lojban cel-gaulish en-gb-oed i-ami i-bnn i-default i-enochian i-hak i-klingon i-lux i-mingo i-navajo i-pwn i-tao i-tay i-tsu no-bok no-nyn sgn-be-fr sgn-be-nl sgn-ch-de zh-guoyu zh-hakka zh-min zh-min-nan zh-xiang")
	for at, s := range texts {
		two := string([]byte{'0' + byte(at/10), '0' + byte(at%10)})
		im := usable(with("grand "+two+" - sgn latn us", "pair sgn us ase", "script latn - - cyrl", "region us - - - su").Aliases)
		for _, other := range texts {
			follows(t, usable(nil), of(other))
			follows(t, data.Image(), of(other))
			if check.Check(im) == nil {
				t.Fatal("it may be used")
			}
			good := usable(with("grand "+two+" - ase cyrl su", "pair sgn us ase", "script latn - - cyrl", "region us - - - su").Aliases)
			follows(t, good, of(other))
			want := of(other)
			if other == s {
				want = of("ase-cyrl-su")
			}
			hold(t, good, of(other), want)
		}
	}
}

// P17.3: of all short texts that are tags.
func TestFollowsTexts(t *testing.T) {
	im := data.Image()
	rows([]string{"sgn", "zh", "min", "deu", "qaai", "us", "156", "heploc", "hakka", "u", "t", "co", "yes", "kb", "true"}, 4, func(row []string) {
		if x, e := parse.Parse(strings.Join(row, "-")); e == nil {
			follows(t, im, x)
		}
	})
	// Of extensions alone, of which there are more.
	rows([]string{"u", "t", "kb", "yes", "true", "m0", "en", "fonipa"}, 5, func(row []string) {
		if x, e := parse.Parse("no-" + strings.Join(row, "-")); e == nil {
			follows(t, im, x)
		}
	})
}
