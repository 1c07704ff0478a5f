package rewrite_test

import (
	"fmt"
	"strings"
	"testing"

	"isogloss/api"
)

// variants is a tag with these variants.
func variants(s string) api.Tag {
	return api.Tag{Lang: "en", Variants: strings.Fields(s), Private: []string{"heploc"}}
}

// P16.1: a variant is another one, at its place, or goes.
func TestStepVariant(t *testing.T) {
	for _, x := range []struct{ row, want string }{
		{"heploc", "alalc97"}, {"heploc fonipa", "alalc97 fonipa"}, {"fonipa heploc", "fonipa alalc97"}, {"fonipa heploc 1994", "fonipa alalc97 1994"},
		{"heploc alalc97", "alalc97"}, {"alalc97 heploc", "alalc97"}, {"fonipa heploc 1994 alalc97", "fonipa 1994 alalc97"}, {"alalc97 fonipa heploc 1994", "alalc97 fonipa 1994"},
		{"heploc ALALC97", "alalc97 ALALC97"}, {"heploc alalc9 alalc977", "alalc97 alalc9 alalc977"},
		// Where one stands twice, the first is it.
		{"heploc heploc", "alalc97 heploc"}, {"fonipa heploc 1994 heploc", "fonipa alalc97 1994 heploc"},
	} {
		one(t, "variant heploc - alalc97", variants(x.row), variants(x.want))
		one(t, "variant heploc bb alalc97 ss rr", variants(x.row), variants(x.want))
	}
	for _, x := range []struct{ row, want string }{
		{"heploc", ""}, {"heploc fonipa", "fonipa"}, {"fonipa heploc", "fonipa"}, {"fonipa heploc 1994", "fonipa 1994"}, {"heploc heploc", "heploc"},
	} {
		one(t, "variant heploc", variants(x.row), variants(x.want))
	}
	one(t, "variant heploc - heploc", variants("fonipa heploc 1994"), variants("fonipa heploc 1994"))
	one(t, "variant heploc - heploc", variants("fonipa heploc heploc"), variants("fonipa heploc"))
	// An empty text is held as it stands, too.
	one(t, "variant - - fonipa", api.Tag{Variants: []string{"1994", ""}}, api.Tag{Variants: []string{"1994", "fonipa"}})
	one(t, "variant 1994", api.Tag{Variants: []string{"1994", ""}}, api.Tag{Variants: []string{""}})
	for _, s := range []string{"variant HEPLOC - alalc97", "variant heplo - alalc97", "variant heplocx - alalc97", "variant - heploc alalc97", "variant alalc97 - heploc", "variant - - alalc97", "lang heploc - xx", "script heploc - - xx", "region heploc - - - xx", "type heploc - xx", "type en heploc xx", "grand heploc - xx", "pair en heploc xx"} {
		holdDone(t, with(s), variants("fonipa heploc"))
		holdDone(t, with(s), variants("heploc"))
	}
	holdDone(t, with("variant heploc - alalc97"), variants(""))
	holdDone(t, with("variant heploc - alalc97"), variants("Heploc"))
	holdDone(t, with("variant heploc - alalc97"), api.Tag{Lang: "heploc", Script: "heploc", Region: "heploc", Exts: []api.Ext{{Key: "heploc", Subs: []string{"heploc"}}}, Grand: "heploc"})
}

// P16.1: of several aliases of variants that of the first of the Variants, wherever it stands.
func TestStepVariantFirst(t *testing.T) {
	im := with("variant ccccc - 3cccc", "variant aaaaa - 1aaaa", "lang zz - yy", "variant bbbbb", "variant aaaaa - 4aaaa", "variant ccccc")
	for _, x := range []struct {
		row, want string
		number    int
	}{
		{"aaaaa", "1aaaa", 1}, {"bbbbb", "", 3}, {"ccccc", "3cccc", 0},
		{"aaaaa bbbbb ccccc", "1aaaa bbbbb ccccc", 1}, {"bbbbb aaaaa ccccc", "aaaaa ccccc", 3}, {"ccccc bbbbb aaaaa", "3cccc bbbbb aaaaa", 0}, {"bbbbb ccccc", "ccccc", 3}, {"ccccc bbbbb", "3cccc bbbbb", 0},
		{"ddddd bbbbb eeeee ccccc aaaaa", "ddddd eeeee ccccc aaaaa", 3}, {"1aaaa ddddd aaaaa bbbbb", "1aaaa ddddd bbbbb", 1}, {"bbbbb 1aaaa aaaaa", "1aaaa aaaaa", 3},
	} {
		holdStep(t, im, variants(x.row), variants(x.want), x.number, true)
		hold(t, im, variants(x.row))
	}
}

// extensions is a tag with these: each text is a Key, and its Subs.
func extensions(all ...string) api.Tag {
	x := api.Tag{Lang: "en", Private: []string{"ca", "islamicc"}}
	for _, s := range all {
		w := strings.Fields(s)
		x.Exts = append(x.Exts, api.Ext{Key: w[0], Subs: w[1:]})
	}
	return x
}

// P16.1: a type is another one, within the first extension `u`.
func TestStepType(t *testing.T) {
	for _, x := range []struct{ subs, want string }{
		{"ca islamicc", "ca civil"}, {"foo bar ca islamicc", "foo bar ca civil"}, {"co phonebk ca islamicc kb", "co phonebk ca civil kb"}, {"ca islamicc co phonebk aa", "ca civil co phonebk aa"}, {"islamicc ca islamicc", "islamicc ca civil"},
		// The first that has just this, also if its Key stands there ahead of it with another one.
		{"ca ca islamicc", "ca ca civil"}, {"ca buddhist ca islamicc", "ca buddhist ca civil"}, {"ca islamicc foo ca islamicc", "ca islamicc foo ca civil"}, {"ca islamicc ca islamicc", "ca civil ca islamicc"}, {"ca civil ca islamicc", "ca civil ca civil"},
		// What is read is in small letters, all of it.
		{"CA islamicc", "ca civil"}, {"FOO ca ISLAMICC CO Phonebk", "foo ca civil co phonebk"},
	} {
		one(t, "type ca islamicc civil", extensions("u "+x.subs), extensions("u "+x.want))
		one(t, "type ca islamicc civil ss rr", extensions("t CA ISLAMICC", "u "+x.subs, "a CA ISLAMICC"), extensions("t CA ISLAMICC", "u "+x.want, "a CA ISLAMICC"))
		one(t, "type ca islamicc civil", extensions("u "+x.subs, "u ca islamicc"), extensions("u "+x.want, "u ca islamicc"))
	}
	for _, subs := range []string{"", "ca", "islamicc", "ca islamicc foo", "ca foo islamicc", "ca islamicc islamicc", "ca co islamicc", "co islamicc", "cal islamicc", "c islamicc", "islamicc ca", "ca islamic", "ca islamiccc", "ca islam icc", "ca islamicc x", "foo islamicc"} {
		holdDone(t, with("type ca islamicc civil"), extensions("u "+subs))
		holdDone(t, with("type ca islamicc civil"), extensions("u "+subs, "u ca islamicc"))
		holdDone(t, with("type ca islamicc civil"), extensions("U ca islamicc", "t ca islamicc", "u "+subs, "v ca islamicc", "uu ca islamicc"))
	}
	for _, s := range []string{"type CA islamicc civil", "type ca Islamicc civil", "type islamicc ca civil", "type - islamicc civil", "type ca - civil", "type ca civil islamicc", "variant ca islamicc civil", "variant islamicc - civil", "lang ca - xx", "region ca - - - xx", "type co islamicc civil", "type u islamicc civil", "pair ca islamicc civil", "type caislamicc - civil"} {
		holdDone(t, with(s), extensions("u ca islamicc"))
		holdDone(t, with(s), extensions("u CA ISLAMICC", "u ca islamicc"))
	}
	// L is put there as it stands.
	one(t, "type ca islamicc true", extensions("u ca islamicc"), extensions("u ca true"))
	one(t, "type ca islamicc CIVIL", extensions("u ca islamicc"), extensions("u ca CIVIL"))
	one(t, "type ca islamicc islamicc", extensions("u ca islamicc"), extensions("u ca islamicc"))
	one(t, "type ca islamicc", extensions("u aaa ca islamicc"), api.Tag{Lang: "en", Private: []string{"ca", "islamicc"}, Exts: []api.Ext{{Key: "u", Subs: []string{"aaa", "ca", ""}}}})
	one(t, "type ca - civil", api.Tag{Exts: []api.Ext{{Key: "u", Subs: []string{"ca", ""}}}}, api.Tag{Exts: []api.Ext{{Key: "u", Subs: []string{"ca", "civil"}}}})
	one(t, "type é islamicc civil", api.Tag{Exts: []api.Ext{{Key: "u", Subs: []string{"é", "islamicc"}}}}, api.Tag{Exts: []api.Ext{{Key: "u", Subs: []string{"é", "civil"}}}})
}

// P16.1: of several aliases of types that of the first of the keys, wherever it stands.
func TestStepTypeFirst(t *testing.T) {
	im := with("type ms imperial uksystem", "type ca islamicc civil", "lang zz - yy", "type co diction dict", "type ca islamicc xxxxx", "type co phonebk yyyyy", "type ms imperial zzzzz")
	for _, x := range []struct {
		subs, want string
		number     int
	}{
		{"ca islamicc", "ca civil", 1}, {"co diction", "co dict", 3}, {"ms imperial", "ms uksystem", 0}, {"co phonebk", "co yyyyy", 5},
		{"ca islamicc co diction ms imperial", "ca civil co diction ms imperial", 1}, {"co diction ca islamicc", "co dict ca islamicc", 3}, {"ms imperial ca islamicc", "ms uksystem ca islamicc", 0}, {"aa ms imperial ca islamicc", "aa ms uksystem ca islamicc", 0},
		{"ca islamicc foo co phonebk ms imperial", "ca islamicc foo co yyyyy ms imperial", 5}, {"co phonebk co diction", "co yyyyy co diction", 5}, {"co diction co phonebk", "co dict co phonebk", 3}, {"co dict co diction", "co dict co dict", 3},
	} {
		holdStep(t, im, extensions("u "+x.subs), extensions("u "+x.want), x.number, true)
		hold(t, im, extensions("a foo", "u "+x.subs, "u ca islamicc"))
	}
}

// P16.1, P1: many variants, many keys, and many aliases, of which the last alone fits.
func TestStepMany(t *testing.T) {
	const many = 20000
	var im api.Image
	var row, subs []string
	for i := range many {
		v, other := fmt.Sprintf("v%05d", i), fmt.Sprintf("v%05d", 2*many-1-i)
		row, subs = append(row, v), append(subs, "ca", v)
		im.Aliases = append(im.Aliases, api.Alias{Kind: 6, A: other}, api.Alias{Kind: 7, A: "ca", B: other, L: "xxx"})
	}
	x, y := api.Tag{Variants: row}, api.Tag{Exts: []api.Ext{{Key: "u", Subs: subs}}}
	holdDone(t, im, x)
	holdDone(t, im, y)
	im.Aliases = append(im.Aliases, api.Alias{Kind: 7, A: "ca", B: row[many-1], L: "yyy"}, api.Alias{Kind: 6, A: row[many-1], L: "zzz"})
	last := many - 1
	holdStep(t, im, x, api.Tag{Variants: append(row[:last:last], "zzz")}, 2*many+1, true)
	last = 2*many - 1
	holdStep(t, im, y, api.Tag{Exts: []api.Ext{{Key: "u", Subs: append(subs[:last:last], "yyy")}}}, 2*many, true)
}
