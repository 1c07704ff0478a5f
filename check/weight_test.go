package check_test

import (
	"fmt"
	"math"
	"slices"
	"strings"
	"testing"

	"isogloss/api"
	"isogloss/check"
	"isogloss/grand"
)

// holdFinal holds whether something is final, and that the image is not changed.
func holdFinal(t *testing.T, im api.Image, kind int, a, b string, want bool) {
	t.Helper()
	before := copied(im)
	for range 2 {
		if got := check.Final(im, kind, a, b); got != want {
			t.Errorf("Final(%d, %.50q, %.50q): %v", kind, a, b, got)
		}
	}
	if !same(im, before) {
		t.Error("Final changed its image")
	}
}

// P14.2: what is final, kind by kind.
func TestFinal(t *testing.T) {
	im := usable()
	for _, x := range []struct {
		kind int
		a, b string
		want bool
	}{
		{api.AliasLang, "iw", "", false}, {api.AliasLang, "sh", "", false}, {api.AliasLang, "sgn", "", false}, {api.AliasLang, "he", "", true}, {api.AliasLang, "sr", "", true}, {api.AliasLang, "ase", "", true}, {api.AliasLang, "en", "", true}, {api.AliasLang, "br", "", true}, {api.AliasLang, "18", "", true}, {api.AliasLang, "qaai", "", true}, {api.AliasLang, "su", "", true},
		{api.AliasScript, "qaai", "", false}, {api.AliasScript, "zinh", "", true}, {api.AliasScript, "latn", "", true}, {api.AliasScript, "iw", "", true}, {api.AliasScript, "sgn", "", true},
		{api.AliasRegion, "su", "", false}, {api.AliasRegion, "840", "", false}, {api.AliasRegion, "ru", "", true}, {api.AliasRegion, "us", "", true}, {api.AliasRegion, "br", "", true}, {api.AliasRegion, "iw", "", true},
		{api.AliasVariant, "heploc", "", false}, {api.AliasVariant, "polytoni", "", false}, {api.AliasVariant, "alalc97", "", true}, {api.AliasVariant, "islamicc", "", true},
		{api.AliasType, "ca", "islamicc", false}, {api.AliasType, "co", "diction", false}, {api.AliasType, "kb", "yes", false}, {api.AliasType, "ca", "civil", true}, {api.AliasType, "co", "islamicc", true}, {api.AliasType, "ca", "diction", true}, {api.AliasType, "ca", "", true}, {api.AliasType, "", "islamicc", true}, {api.AliasType, "islamicc", "ca", true}, {api.AliasType, "", "", true}, {api.AliasType, "iw", "", true}, {api.AliasType, "heploc", "", true},
		// Texts are held as they stand.
		{api.AliasLang, "IW", "", true}, {api.AliasLang, "iw\x00", "", true}, {api.AliasLang, "i", "", true}, {api.AliasLang, "iwx", "", true}, {api.AliasLang, "", "", true}, {api.AliasScript, "Qaai", "", true}, {api.AliasRegion, "SU", "", true}, {api.AliasVariant, "heplo", "", true}, {api.AliasType, "CA", "islamicc", true}, {api.AliasType, "ca", "Islamicc", true}, {api.AliasType, "cai", "slamicc", true}, {api.AliasType, "caislamicc", "", true}, {api.AliasLang, strings.Repeat("iw", 1<<20), "", true}, {api.AliasLang, "\xff", "\xff", true},
	} {
		holdFinal(t, im, x.kind, x.a, x.b, x.want)
		holdFinal(t, api.Image{}, x.kind, x.a, x.b, true)
		if x.kind != api.AliasType {
			for _, b := range []string{"islamicc", "us", "br", x.a, "-", "\x00", "zzz"} {
				holdFinal(t, im, x.kind, x.a, b, x.want)
			}
		}
	}
}

// P14.2: a language that is the A of aliases of one kind, of the other, of both, of neither.
func TestFinalLanguages(t *testing.T) {
	holdFinal(t, api.Image{Aliases: aliases("lang aa - bb")}, api.AliasLang, "aa", "", false)
	holdFinal(t, api.Image{Aliases: aliases("pair aa xx bb")}, api.AliasLang, "aa", "", false)
	holdFinal(t, api.Image{Aliases: aliases("pair aa xx bb")}, api.AliasLang, "aa", "yy", false)
	holdFinal(t, api.Image{Aliases: aliases("pair aa xx bb", "lang aa - bb")}, api.AliasLang, "aa", "", false)
	holdFinal(t, api.Image{Aliases: aliases("lang aa - bb", "pair aa xx bb", "pair aa yy bb")}, api.AliasLang, "aa", "", false)
	holdFinal(t, api.Image{Aliases: aliases("lang aa - bb", "pair aa xx bb", "pair aa yy bb")}, api.AliasLang, "bb", "", true)
	holdFinal(t, api.Image{Aliases: aliases("script aaaa - - bbbb", "region aa - - - bb", "type aa aaa bbb", "lang bb - aa", "pair xx aa bb")}, api.AliasLang, "aa", "", true)
}

// kindsOfAll are numbers that are kinds of aliases, and others.
func kindsOfAll() []int {
	return []int{-8, -7, -4, -3, -2, -1, 0, 1, 2, 3, 4, 5, 6, 7, 8, 9, 255, 256, 259, 263, 1 << 16, 1<<32 + 3, math.MinInt, math.MinInt + 3, math.MaxInt}
}

// P14.2, R5: by kinds that are none of those that are asked, all is final; of images, and texts, that may not be, too.
func TestFinalKinds(t *testing.T) {
	var all []api.Alias
	texts := []string{"", "aa", "AA", "18", "ca", "islamicc", "é", "\x00", "a-b"}
	for _, kind := range kindsOfAll() {
		for at, a := range texts {
			all = append(all, api.Alias{Kind: kind, A: a, B: texts[len(texts)-1-at]}, api.Alias{Kind: kind, A: a, B: "aa", L: a})
		}
	}
	for _, im := range []api.Image{{Aliases: all}, usable(), {}, {Aliases: all[:len(all)/2], Threshold: -1}} {
		for _, kind := range kindsOfAll() {
			for _, a := range append(texts, "iw", "sgn", "qaai", "su", "heploc", "zz") {
				for _, b := range append(texts, "us", "civil") {
					holdFinal(t, im, kind, a, b, finalAgain(im, kind, a, b))
				}
				if kind < api.AliasLang || kind > api.AliasType {
					holdFinal(t, im, kind, a, "", true)
				}
			}
		}
	}
	for _, kind := range []int{api.AliasLang, api.AliasScript, api.AliasRegion, api.AliasVariant} {
		holdFinal(t, api.Image{Aliases: []api.Alias{{Kind: kind, A: "AA", B: "b"}, {Kind: kind}}}, kind, "AA", "", false)
		holdFinal(t, api.Image{Aliases: []api.Alias{{Kind: kind, A: "AA", B: "b"}, {Kind: kind}}}, kind, "", "c", false)
		holdFinal(t, api.Image{Aliases: []api.Alias{{Kind: kind, A: "AA", B: "b"}, {Kind: kind}}}, kind, "aa", "b", true)
	}
}

// holdWeight holds how much a tag weighs, and that neither it nor the image is changed.
func holdWeight(t *testing.T, im api.Image, x api.Tag, want int) {
	t.Helper()
	before, told := copied(im), fmt.Sprintf("%q", x)
	for range 2 {
		if got := check.Weight(im, x); got != want {
			t.Errorf("Weight(%.300s): %d, want %d", told, got, want)
		}
	}
	if !same(im, before) || fmt.Sprintf("%q", x) != told {
		t.Errorf("Weight changed what it was asked, %.300s", told)
	}
}

// P14.2: tags with nothing that is called otherwise, with one such thing, and with all.
func TestWeight(t *testing.T) {
	im := usable()
	for _, x := range []struct {
		tag  api.Tag
		want int
	}{
		{api.Tag{}, 0}, {api.Tag{Lang: "en"}, 0}, {api.Tag{Lang: "en", Script: "latn", Region: "us", Variants: []string{"1994", "alalc97"}}, 0}, {api.Tag{Private: []string{"iw"}}, 0},
		{api.Tag{Lang: "iw"}, 1}, {api.Tag{Lang: "sgn"}, 1}, {api.Tag{Lang: "sgn", Region: "br"}, 1}, {api.Tag{Lang: "en", Script: "qaai"}, 1}, {api.Tag{Lang: "en", Region: "su"}, 1}, {api.Tag{Lang: "en", Region: "840"}, 1}, {api.Tag{Lang: "en", Variants: []string{"heploc"}}, 1}, {api.Tag{Lang: "el", Variants: []string{"polytoni"}}, 1},
		{api.Tag{Lang: "ja", Variants: []string{"heploc", "alalc97"}}, 1}, {api.Tag{Lang: "ja", Variants: []string{"1994", "heploc", "alalc97", "polytoni", "fonipa"}}, 2}, {api.Tag{Variants: []string{"heploc", "polytoni", "heploc"}}, 3},
		{api.Tag{Lang: "sgn", Region: "su"}, 2}, {api.Tag{Lang: "iw", Script: "qaai"}, 2}, {api.Tag{Script: "qaai", Region: "su"}, 2}, {api.Tag{Lang: "iw", Script: "qaai", Region: "840"}, 3}, {api.Tag{Lang: "iw", Script: "qaai", Region: "840", Variants: []string{"polytoni", "heploc"}}, 5},
		{api.Tag{Grand: "sgn-be-fr"}, 1}, {api.Tag{Grand: "zh-min-nan"}, 1}, {api.Tag{Grand: "sgn-be-nl"}, 0}, {api.Tag{Grand: "art-lojban"}, 0}, {api.Tag{Grand: "i-default"}, 0},
		// Not right, but told too.
		{api.Tag{Lang: "iw", Script: "qaai", Region: "840", Variants: []string{"polytoni", "heploc"}, Grand: "sgn-be-fr"}, 6}, {api.Tag{Lang: "iw", Grand: "i-default"}, 1}, {api.Tag{Lang: "IW", Script: "Qaai", Region: "SU", Variants: []string{"HEPLOC"}}, 0}, {api.Tag{Lang: "su", Script: "iw", Region: "qaai", Variants: []string{"iw", "su", "840", "ca", "islamicc"}}, 0}, {api.Tag{Lang: "é", Region: "\xff", Variants: []string{"", ""}}, 0}, {api.Tag{Grand: "sgn-be-fr-x-a"}, 0}, {api.Tag{Grand: "18"}, 0}, {api.Tag{Grand: "sgn-br"}, 0}, {api.Tag{Grand: "iw"}, 0}, {api.Tag{Lang: "sgn-be-fr"}, 0},
		// Other fields weigh nothing.
		{api.Tag{Lang: "ar", Extlang: []string{"iw", "sgn", "cnr"}, Exts: []api.Ext{{Key: "u", Subs: []string{"ca", "islamicc", "co", "diction"}}, {Key: "t", Subs: []string{"iw", "heploc"}}}, Private: []string{"su", "heploc"}}, 0},
		{api.Tag{Lang: "iw", Extlang: []string{"iw"}, Exts: []api.Ext{{Key: "u", Subs: []string{"ca", "islamicc"}}}, Private: []string{"su"}}, 1},
	} {
		holdWeight(t, im, x.tag, x.want)
		holdWeight(t, api.Image{}, x.tag, 0)
	}
}

// P14.2: grandfathered tags, each with an alias and without.
func TestWeightGrand(t *testing.T) {
	var all []api.Alias
	for i := range grand.Len() {
		all = append(all, api.Alias{Kind: api.AliasGrand, A: fmt.Sprintf("%02d", i), L: "en"})
	}
	for i, name := range grand.All() {
		holdWeight(t, api.Image{Aliases: all}, api.Tag{Grand: name}, 1)
		holdWeight(t, api.Image{Aliases: all[i : i+1]}, api.Tag{Grand: name}, 1)
		holdWeight(t, api.Image{Aliases: slices.Concat(all[:i], all[i+1:])}, api.Tag{Grand: name}, 0)
		// Its number has just two digits; twice the same alias is one.
		holdWeight(t, api.Image{Aliases: []api.Alias{{Kind: api.AliasGrand, A: fmt.Sprintf("%03d", i)}, {Kind: api.AliasGrand, A: name}, {Kind: api.AliasLang, A: fmt.Sprintf("%02d", i)}, {Kind: api.AliasType, A: fmt.Sprintf("%02d", i)}, {Kind: 0, A: fmt.Sprintf("%02d", i)}}}, api.Tag{Grand: name}, 0)
		holdWeight(t, api.Image{Aliases: append(all[:i+1:i+1], all[i], api.Alias{Kind: api.AliasGrand, A: all[i].A, B: "b"})}, api.Tag{Grand: name}, 1)
		// Cases play no part where a grandfathered tag is looked for.
		holdWeight(t, api.Image{Aliases: all}, api.Tag{Grand: strings.ToUpper(name)}, 1)
	}
	// What is none weighs nothing, even if there is an alias of the first one.
	for _, name := range []string{"", "en", "i-", "art-lojba", "art-lojban-", "art-lojban-x", "00", "\xff", strings.Repeat("i-ami-", 1<<16)} {
		holdWeight(t, api.Image{Aliases: all}, api.Tag{Grand: name}, 0)
	}
}

// P14.2: what is not there weighs nothing, even by an alias that may not be.
func TestWeightNothing(t *testing.T) {
	im := api.Image{Aliases: []api.Alias{{Kind: 1}, {Kind: 2}, {Kind: 3}, {Kind: 4}, {Kind: 5}, {Kind: 6}, {Kind: 7}, {Kind: 3, A: "AA"}, {Kind: 6, A: "a-b"}, {Kind: 2, A: "bb"}}}
	holdWeight(t, im, api.Tag{}, 0)
	holdWeight(t, im, api.Tag{Extlang: []string{}, Variants: []string{}, Exts: []api.Ext{}, Private: []string{}}, 0)
	holdWeight(t, im, api.Tag{Lang: "en", Variants: []string{"1994"}, Private: []string{""}}, 0)
	holdWeight(t, im, api.Tag{Lang: "AA", Variants: []string{"a-b", "a-b"}}, 3)
	holdWeight(t, im, api.Tag{Lang: "bb", Script: "aa", Region: "AA", Variants: []string{"a", "b"}}, 1)
}

// P14.2: many variants, and many aliases.
func TestWeightMany(t *testing.T) {
	var im api.Image
	var x api.Tag
	for i := range 20000 {
		im.Aliases = append(im.Aliases, api.Alias{Kind: api.AliasVariant, A: fmt.Sprint("v", i)})
		x.Variants = append(x.Variants, fmt.Sprint("v", 2*i))
	}
	holdWeight(t, im, x, 10000)
}
