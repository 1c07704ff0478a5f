package data_test

import (
	"strings"
	"testing"

	"isogloss/api"
	"isogloss/data"
)

// long is a text that is longer than all that are there.
var long = strings.Repeat("sgn", 1<<18)

// findAgain is the chapter's alias of that kind, A and B, once more.
func findAgain(kind int, a, b string) (api.Alias, bool) {
	for _, line := range aliasLines {
		if x := aliasAgain(line); x.Kind == kind && x.A+" "+x.B == a+" "+b {
			return x, true
		}
	}
	return api.Alias{}, false
}

// likelyOnce is the chapter's likely row of that L, S and R, once more.
func likelyOnce(l, s, r string) (api.Likely, bool) {
	for _, line := range likelyLines {
		if x := likelyAgain(line); x.L+" "+x.S+" "+x.R == l+" "+s+" "+r {
			return x, true
		}
	}
	return api.Likely{}, false
}

// holdFind holds what Find tells.
func holdFind(t *testing.T, kind int, a, b string, want api.Alias, there bool) {
	t.Helper()
	for range 2 {
		if got, ok := data.Find(kind, a, b); got != want || ok != there {
			t.Errorf("Find(%d, %.40q, %.40q): %+v, %t, want %+v, %t", kind, a, b, got, ok, want, there)
		}
	}
}

// holdLikely holds what Likely tells.
func holdLikely(t *testing.T, l, s, r string, want api.Likely, there bool) {
	t.Helper()
	for range 2 {
		if got, ok := data.Likely(l, s, r); got != want || ok != there {
			t.Errorf("Likely(%.40q, %.40q, %.40q): %+v, %t, want %+v, %t", l, s, r, got, ok, want, there)
		}
	}
}

// P15.1: the chapter's example; an alias of each kind; the first and the last one.
func TestFind(t *testing.T) {
	for _, want := range []api.Alias{
		{Kind: api.AliasPair, A: "sgn", B: "us", L: "ase"},
		{Kind: api.AliasGrand, A: "18", L: "sfb"}, {Kind: api.AliasGrand, A: "00", L: "jbo"}, {Kind: api.AliasGrand, A: "04", L: "bnn"},
		{Kind: api.AliasPair, A: "sgn", B: "br", L: "bzs"}, {Kind: api.AliasPair, A: "sgn", B: "gb", L: "bfi"}, {Kind: api.AliasPair, A: "sgn", B: "de", L: "gsg"},
		{Kind: api.AliasLang, A: "iw", L: "he"}, {Kind: api.AliasLang, A: "sh", L: "sr", S: "latn"}, {Kind: api.AliasLang, A: "cnr", L: "sr", R: "me"}, {Kind: api.AliasLang, A: "fra", L: "fr"},
		{Kind: api.AliasScript, A: "qaai", S: "zinh"},
		{Kind: api.AliasRegion, A: "dd", R: "de"}, {Kind: api.AliasRegion, A: "840", R: "us"}, {Kind: api.AliasRegion, A: "cs", R: "rs"},
		{Kind: api.AliasVariant, A: "heploc", L: "alalc97"}, {Kind: api.AliasVariant, A: "polytoni", L: "polyton"},
		{Kind: api.AliasType, A: "ca", B: "islamicc", L: "civil"}, {Kind: api.AliasType, A: "kb", B: "yes", L: "true"},
	} {
		holdFind(t, want.Kind, want.A, want.B, want, true)
	}
}

// P15.1: each alias is found by its Kind, A and B, and not if one of these is another's.
func TestFindAll(t *testing.T) {
	kinds, firsts, seconds := map[int]bool{-1: true, 0: true, 8: true}, map[string]bool{"": true, "xx": true}, map[string]bool{"": true, "xx": true}
	for _, x := range data.Image().Aliases {
		holdFind(t, x.Kind, x.A, x.B, x, true)
		kinds[x.Kind], firsts[x.A], seconds[x.B] = true, true, true
		for _, target := range []string{x.L, x.S, x.R} {
			firsts[target], seconds[target] = true, true
		}
	}
	for kind := range kinds {
		for a := range firsts {
			for b := range seconds {
				want, there := findAgain(kind, a, b)
				holdFind(t, kind, a, b, want, there)
			}
		}
	}
}

// P15.1: what is not there: the zero alias, false.
func TestFindNone(t *testing.T) {
	for _, x := range []struct {
		kind int
		a, b string
	}{
		// A Kind that is none, or is another one.
		{0, "iw", ""}, {8, "iw", ""}, {-1, "iw", ""}, {-3, "iw", ""}, {259, "iw", ""}, {1<<62 + 3, "iw", ""}, {-1 << 63, "iw", ""}, {1<<63 - 1, "iw", ""}, {0, "", ""}, {8, "", ""}, {-1, "", ""},
		{api.AliasPair, "iw", ""}, {api.AliasGrand, "840", ""}, {api.AliasRegion, "18", ""}, {api.AliasLang, "dd", ""}, {api.AliasRegion, "iw", ""}, {api.AliasVariant, "qaai", ""}, {api.AliasScript, "heploc", ""}, {api.AliasPair, "ca", "islamicc"}, {api.AliasType, "sgn", "us"}, {api.AliasLang, "sgn", ""},
		// An A that is not there.
		{api.AliasGrand, "01", ""}, {api.AliasGrand, "0", ""}, {api.AliasGrand, "3", ""}, {api.AliasGrand, "26", ""}, {api.AliasLang, "he", ""}, {api.AliasLang, "i", ""}, {api.AliasLang, "iwx", ""}, {api.AliasLang, " iw", ""}, {api.AliasLang, "iw\x00", ""}, {api.AliasScript, "zinh", ""}, {api.AliasRegion, "de", ""}, {api.AliasVariant, "polyton", ""}, {api.AliasType, "nu", "yes"}, {api.AliasPair, "en", "us"},
		// A B that no alias of that A has.
		{api.AliasPair, "sgn", ""}, {api.AliasPair, "sgn", "fr"}, {api.AliasPair, "sgn", "dd"}, {api.AliasPair, "us", "sgn"}, {api.AliasLang, "iw", "he"}, {api.AliasLang, "sh", "latn"}, {api.AliasGrand, "18", "sfb"}, {api.AliasScript, "qaai", "zinh"}, {api.AliasRegion, "dd", "de"}, {api.AliasVariant, "heploc", "alalc97"},
		{api.AliasType, "ca", ""}, {api.AliasType, "ca", "civil"}, {api.AliasType, "ca", "yes"}, {api.AliasType, "kb", "true"}, {api.AliasType, "kb", "islamicc"}, {api.AliasType, "yes", "kb"}, {api.AliasType, "", "yes"},
		// Great letters, empty texts, long ones, and such as would be the same one behind the other.
		{api.AliasLang, "IW", ""}, {api.AliasLang, "Iw", ""}, {api.AliasPair, "SGN", "us"}, {api.AliasPair, "sgn", "US"}, {api.AliasScript, "Qaai", ""}, {api.AliasRegion, "DD", ""}, {api.AliasVariant, "HEPLOC", ""}, {api.AliasType, "KB", "yes"}, {api.AliasType, "kb", "YES"},
		{api.AliasLang, "", ""}, {api.AliasPair, "", ""}, {api.AliasPair, "", "us"}, {api.AliasGrand, "", ""}, {api.AliasScript, "", ""}, {api.AliasRegion, "", ""}, {api.AliasVariant, "", ""}, {api.AliasType, "", ""},
		{api.AliasPair, long, "us"}, {api.AliasPair, "sgn", long}, {api.AliasLang, long, long}, {api.AliasLang, "\xff\xfe", "\x80"},
		{api.AliasPair, "sgnus", ""}, {api.AliasPair, "", "sgnus"}, {api.AliasPair, "sg", "nus"}, {api.AliasPair, "sgn us", ""}, {api.AliasType, "kbyes", ""}, {api.AliasLang, "", "iw"},
	} {
		holdFind(t, x.kind, x.a, x.b, api.Alias{}, false)
	}
}

// P15.1: likely rows with none, one, and both of S and R, `und` among them; the first and the last one.
func TestLikely(t *testing.T) {
	for _, want := range []api.Likely{
		{L: "en", ToL: "en", ToS: "latn", ToR: "us"}, {L: "en", S: "shaw", ToL: "en", ToS: "shaw", ToR: "gb"},
		{L: "und", ToL: "en", ToS: "latn", ToR: "us"}, {L: "und", R: "419", ToL: "es", ToS: "latn", ToR: "419"}, {L: "und", S: "hant", ToL: "zh", ToS: "hant", ToR: "tw"},
		{L: "sr", ToL: "sr", ToS: "cyrl", ToR: "rs"}, {L: "sr", S: "latn", ToL: "sr", ToS: "latn", ToR: "rs"}, {L: "sr", R: "me", ToL: "sr", ToS: "latn", ToR: "me"},
		{L: "zh", ToL: "zh", ToS: "hans", ToR: "cn"}, {L: "zh", R: "tw", ToL: "zh", ToS: "hant", ToR: "tw"}, {L: "zh", R: "hk", ToL: "zh", ToS: "hant", ToR: "hk"}, {L: "zh", S: "hant", ToL: "zh", ToS: "hant", ToR: "tw"},
		{L: "fil", ToL: "fil", ToS: "latn", ToR: "ph"}, {L: "ro", ToL: "ro", ToS: "latn", ToR: "ro"},
	} {
		holdLikely(t, want.L, want.S, want.R, want, true)
	}
}

// P15.1: each likely row is found by its L, S and R, and none by those of several rows: none has both S and R.
func TestLikelyAll(t *testing.T) {
	langs, scripts, regions := map[string]bool{"": true, "xx": true}, map[string]bool{"": true, "thai": true}, map[string]bool{"": true, "xx": true}
	for _, x := range data.Image().Likely {
		holdLikely(t, x.L, x.S, x.R, x, true)
		langs[x.L], scripts[x.S], regions[x.R] = true, true, true
		langs[x.ToL], scripts[x.ToS], regions[x.ToR] = true, true, true
	}
	for l := range langs {
		for s := range scripts {
			for r := range regions {
				want, there := likelyOnce(l, s, r)
				holdLikely(t, l, s, r, want, there)
			}
		}
	}
}

// P15.1: what is no likely row's: the zero one, false, also where there is a row of L alone.
func TestLikelyNone(t *testing.T) {
	for _, x := range [][3]string{
		{"sr", "cyrl", "me"}, {"sr", "latn", "me"}, {"sr", "cyrl", ""}, {"sr", "", "rs"}, {"sr", "latn", "rs"}, {"en", "latn", "us"}, {"en", "latn", ""}, {"en", "", "us"}, {"en", "shaw", "gb"}, {"en", "", "gb"}, {"zh", "hant", "tw"}, {"zh", "hans", ""}, {"zh", "", "cn"}, {"und", "latn", ""}, {"und", "", "us"}, {"und", "hant", "tw"}, {"und", "hant", "419"},
		{"xx", "", ""}, {"ms", "", ""}, {"no", "", ""}, {"latn", "", ""}, {"e", "", ""}, {"eng", "", ""}, {"en ", "", ""}, {"en\x00", "", ""}, {"*", "", ""},
		{"EN", "", ""}, {"En", "", ""}, {"UND", "", ""}, {"en", "Shaw", ""}, {"en", "SHAW", ""}, {"zh", "", "TW"}, {"zh", "", "Tw"},
		{"", "", ""}, {"", "shaw", ""}, {"", "", "419"}, {"", "hant", ""}, {"", "en", ""}, {"", "", "en"},
		{"zh", "tw", ""}, {"sr", "me", ""}, {"sr", "", "latn"}, {"en", "", "shaw"}, {"shaw", "en", ""}, {"enshaw", "", ""}, {"en shaw", "", ""}, {"zhtw", "", ""}, {"en-shaw", "", ""}, {"en", "-", "-"},
		{long, "", ""}, {"en", long, ""}, {"en", "", long}, {long, long, long}, {"\xff", "\x80", "\xfe"},
	} {
		holdLikely(t, x[0], x[1], x[2], api.Likely{}, false)
	}
}
