package canon_test

import (
	"fmt"
	"slices"
	"strings"
	"testing"

	"isogloss/api"
	"isogloss/canon"
	"isogloss/tag"
)

// orders are texts of tags, and of the same in order.
func orders() map[string]string {
	return map[string]string{
		// Nothing to be put in order.
		"en": "en", "en-us": "en-us", "zh-cmn-hant-tw": "zh-cmn-hant-tw", "zh-yue-cmn-gan": "zh-yue-cmn-gan", "x-c-b-a": "x-c-b-a", "i-klingon": "i-klingon", "zh-min-nan": "zh-min-nan", "sgn-be-fr": "sgn-be-fr", "iw-su": "iw-su", "en-x-b-a": "en-x-b-a",
		// Variants, byte by byte: digits ahead of letters, a beginning ahead of what goes on.
		"en-fonipa": "en-fonipa", "iw-fonipa-1994": "iw-1994-fonipa", "en-1994-fonipa": "en-1994-fonipa", "de-scouse-fonipa-1996-1901": "de-1901-1996-fonipa-scouse", "en-abcdef-abcde-1abc-0zzz-abcd0": "en-0zzz-1abc-abcd0-abcde-abcdef", "sl-rozaj-biske-1994": "sl-1994-biske-rozaj",
		// Extensions by rising Key.
		"de-b-xy-a-zz-x-u": "de-a-zz-b-xy-x-u", "en-z-aaa-y-bbb-0-ccc-9-ddd-a-eee": "en-0-ccc-9-ddd-a-eee-y-bbb-z-aaa", "en-u-co-t-de-s-abc": "en-s-abc-t-de-u-co",
		// Those of other Keys keep their subtags as they stand.
		"en-a-foo-co-true-bar-ca-buddhist-co": "en-a-foo-co-true-bar-ca-buddhist-co", "en-b-m0-zz-h0-zz-m0-true": "en-b-m0-zz-h0-zz-m0-true", "en-s-en-scouse-fonipa": "en-s-en-scouse-fonipa", "en-v-bb-aa-bb": "en-v-bb-aa-bb", "en-0-co-true": "en-0-co-true",
		// What `u` says: attributes and keys in any order, `true`, and a key twice.
		"en-u-co-true-ca-islamicc": "en-u-ca-islamicc-co", "en-u-foo-co-true-bar-ca-buddhist-co-phonebk": "en-u-foo-ca-buddhist-co-true-bar", "en-u-foo-bar": "en-u-bar-foo", "en-u-foo-foo-bar": "en-u-bar-foo", "en-u-true": "en-u-true", "en-u-kb-yes": "en-u-kb-yes",
		"en-u-co-true": "en-u-co", "en-u-co-true-true": "en-u-co-true-true", "en-u-co-zz9-abc": "en-u-co-zz9-abc", "en-u-co-b9c-co-a9c": "en-u-co-b9c", "en-u-co-co-a9c": "en-u-co", "en-u-co-true-co-a9c": "en-u-co", "en-u-zz-0a-a0-m0": "en-u-0a-a0-m0-zz", "en-u-m0-zzz-en": "en-u-en-m0-zzz",
		// What `t` says: a tag and fields in any order.
		"en-t-m0-true-h0-hybrid": "en-t-h0-hybrid-m0-true", "en-t-en-scouse-fonipa-m0-und-h0-hybrid": "en-t-en-fonipa-scouse-h0-hybrid-m0-und", "en-t-de-1996-1901": "en-t-de-1901-1996", "en-t-m0-zzz-m0-aaa-k0-abc": "en-t-k0-abc-m0-zzz", "en-t-scouse-fonipa": "en-t-scouse-fonipa", "en-t-1996-1901": "en-t-1996-1901", "en-t-zh-min-nan-scouse-fonipa": "en-t-zh-min-nan-fonipa-scouse", "en-t-zh-min-nan": "en-t-zh-min-nan", "en-t-de-us-us-scouse-fonipa": "en-t-de-us-us-scouse-fonipa", "en-t-iw-su": "en-t-iw-su", "en-t-co-true-bb": "en-t-co-true-bb",
		// All at once, and what is private as it stands.
		"en-t-m0-true-h0-hybrid-u-kb-yes-ca-buddhist":                                          "en-t-h0-hybrid-m0-true-u-ca-buddhist-kb-yes",
		"zh-yue-hant-hk-scouse-fonipa-u-co-true-bar9-t-de-1996-1901-m0-und-a-zz-yy-x-u-co-b-a": "zh-yue-hant-hk-fonipa-scouse-a-zz-yy-t-de-1901-1996-m0-und-u-co-true-bar9-x-u-co-b-a",
	}
}

// P17.1: tags of texts, each in order what it is to be, and itself in order then.
func TestOrder(t *testing.T) {
	for s, want := range orders() {
		holdOrder(t, of(s), of(want))
		holdOrder(t, of(want), of(want))
		if !tag.Same(orderAgain(of(s)), of(want)) {
			t.Errorf("%s: %s", s, said(orderAgain(of(s))))
		}
	}
}

// permuted calls for each order of a row, which is written into.
func permuted[T any](row []T, from int, each func()) {
	if from == len(row) {
		each()
		return
	}
	for i := from; i < len(row); i++ {
		row[from], row[i] = row[i], row[from]
		permuted(row, from+1, each)
		row[from], row[i] = row[i], row[from]
	}
}

// P17.1: Variants in any order, also those that may not be, rise byte by byte; those that are there twice stay so.
func TestOrderVariants(t *testing.T) {
	for _, rising := range [][]string{
		nil, {"fonipa"}, {"1994", "fonipa"}, {"1994", "abcde", "abcdef", "fonipa", "scouse"},
		{"fonipa", "fonipa"}, {"1994", "1994", "fonipa", "fonipa", "scouse"},
		{"", "", "a", "a"}, {"-", "1", "A", "_", "a", "b"}, {"FONIPA", "Fonipa", "fonipa"}, {"a", "a\x00", "a\x00b", "ab"}, {"\x00", "z", "\x7f", "\x80", "\xff"}, {"é", "日", "\xff"},
	} {
		x := api.Tag{Lang: "en", Extlang: strings.Fields("zzz aaa"), Script: "latn", Region: "us", Variants: slices.Clone(rising), Exts: []api.Ext{extension("a zz yy")}, Private: strings.Fields("c b a")}
		want := tag.Clone(x)
		permuted(x.Variants, 0, func() { holdOrder(t, x, want) })
	}
}

// P17.1: Exts in any order rise by Key, byte by byte.
func TestOrderExtensions(t *testing.T) {
	for _, keys := range []string{"", "a", "a b", "0 9 a t u z", "A Z a z", "T U t u", "_ a aa ab b", "tt u uu"} {
		x := api.Tag{Lang: "en"}
		for at, key := range strings.Fields(keys) {
			x.Exts = append(x.Exts, api.Ext{Key: key, Subs: []string{fmt.Sprint("sub", at), "true", "abc"}})
		}
		want := orderAgain(x)
		permuted(x.Exts, 0, func() { holdOrder(t, x, want) })
	}
	// An empty Key is ahead of all.
	holdOrder(t, extensions("a bb", " cc", "0 dd"), extensions(" cc", "0 dd", "a bb"))
	holdOrder(t, extensions("\xff b", "\x7f a", "é c", "z d"), extensions("z d", "\x7f a", "é c", "\xff b"))
}

// P17.1: Exts of one Key stay as they stood, and each of those of `u` and of `t` is put in order by itself.
func TestOrderSameKey(t *testing.T) {
	holdOrder(t, extensions("b two", "a two", "b one", "a one", "b three"), extensions("a two", "a one", "b two", "b one", "b three"))
	holdOrder(t, extensions("u co bbb ca", "t m0 bbb h0", "u co aaa ca", "t m0 aaa h0", "u"), extensions("t h0 m0 bbb", "t h0 m0 aaa", "u ca co bbb", "u ca co aaa", "u"))
	// Of many of few Keys, too, which not every sort leaves so.
	var x, want api.Tag
	for i := range 500 {
		x.Exts = append(x.Exts, api.Ext{Key: string("cabut"[i%5]), Subs: []string{fmt.Sprintf("sub%05d", 99999-i)}})
	}
	for _, key := range "abctu" {
		for _, e := range x.Exts {
			if e.Key == string(key) {
				want.Exts = append(want.Exts, e)
			}
		}
	}
	holdOrder(t, x, want)
}

// P17.1: an extension with no Subs has none then, either.
func TestOrderNone(t *testing.T) {
	holdOrder(t, api.Tag{}, api.Tag{})
	holdOrder(t, api.Tag{Extlang: []string{}, Variants: []string{}, Exts: []api.Ext{}, Private: []string{}}, api.Tag{})
	holdOrder(t, extensions("u", "t", "a"), extensions("a", "t", "u"))
	holdOrder(t, api.Tag{Exts: []api.Ext{{Key: "u", Subs: []string{}}, {Key: "t", Subs: []string{}}, {}}}, api.Tag{Exts: []api.Ext{{}, {Key: "t"}, {Key: "u"}}})
}

// P17.1: a Key is held against `u` and `t` as it stands, and all other fields stay as they stand.
func TestOrderOthers(t *testing.T) {
	for _, key := range []string{"U", "T", "", "v", "s", "x", "0", "uu", "ut", "tu", "t ", " u", "u\x00"} {
		for _, subs := range []string{"", "co true ca", "Foo BAR foo", "m0 true h0 hybrid", "en scouse fonipa"} {
			x := api.Tag{Lang: "en", Exts: []api.Ext{{Key: key, Subs: strings.Fields(subs)}}}
			holdOrder(t, x, x)
		}
	}
	for _, x := range []api.Tag{
		{Lang: "EN", Script: "LATN", Region: "us1", Extlang: strings.Fields("zzz AAA mmm aaa zzz"), Private: strings.Fields("z A a U t z")},
		{Private: strings.Fields("c b a")}, {Grand: "zh-min-nan"}, {Grand: "ZH-min"}, {Grand: "no such one", Lang: "iw", Region: "su", Extlang: []string{"b", "a"}}, {Extlang: []string{"", "b", ""}, Private: []string{"", "b", ""}},
	} {
		holdOrder(t, x, x)
	}
	holdOrder(t, api.Tag{Grand: "zh-min", Variants: strings.Fields("b a"), Exts: []api.Ext{extension("b x"), extension("a y")}}, api.Tag{Grand: "zh-min", Variants: strings.Fields("a b"), Exts: []api.Ext{extension("a y"), extension("b x")}})
}

// P17.1: what `u` and `t` say is read in small letters, and may be what may not be.
func TestOrderRead(t *testing.T) {
	for asked, want := range map[string]string{
		"u Foo BAR foo CO True ca Buddhist Ca": "u bar foo ca buddhist co", "u TRUE": "u true", "u co TRUE": "u co", "u toolongforasub é CO a b ca É": "u toolongforasub ca co a b É é", "u x1 x0 b a x1": "u x0 b a x1", "u x a-b co-true co": "u a-b co-true x co",
		"t EN Scouse FONIPA M0 Und H0 Hybrid": "t en fonipa scouse h0 hybrid m0 und", "t EN-scouse-FONIPA": "t en fonipa scouse", "t Scouse X FONIPA M0": "t scouse x fonipa m0", "t É m0 É M0 x": "t É m0 É", "t en u co scouse fonipa a0": "t en u co scouse fonipa a0", "t I Klingon m0 a h0 b": "t i klingon h0 b m0 a", "t 00 m0 0m m1 co": "t 00 m0 0m m1 co",
	} {
		holdOrder(t, extensions(asked), extensions(want))
		// The one is not read as the other.
		holdOrder(t, extensions("z zz", asked, "a aa"), extensions("a aa", want, "z zz"))
	}
	holdOrder(t, api.Tag{Exts: []api.Ext{{Key: "u", Subs: []string{"b", "", "a", "", "co", ""}}, {Key: "t", Subs: []string{"", "EN", "m0", "", "h0"}}}}, api.Tag{Exts: []api.Ext{{Key: "t", Subs: []string{"", "en", "h0", "m0", ""}}, {Key: "u", Subs: []string{"", "a", "b", "co", ""}}}})
}

// rows are all rows of up to so many of the texts.
func rows(all []string, most int, each func(row []string)) {
	var row []string
	var next func()
	next = func() {
		each(row)
		if len(row) == most {
			return
		}
		for _, s := range all {
			row = append(row, s)
			next()
			row = row[:len(row)-1]
		}
	}
	next()
}

// P17.1: all short rows of what `u`, `t` and another one may say, in all short rows of extensions.
func TestOrderAll(t *testing.T) {
	rows([]string{"", "true", "Foo", "co", "CA", "m0", "en", "us", "fonipa", "1994"}, 4, func(row []string) {
		x := api.Tag{Exts: []api.Ext{{Key: "u", Subs: row}, {Key: "t", Subs: row}, {Key: "a", Subs: row}}}
		if got, want := canon.Order(x), orderAgain(x); !tag.Same(got, want) {
			t.Errorf("Order(%.300s): %.300s, want %.300s", said(x), said(got), said(want))
		}
	})
	rows([]string{"u", "t", "a", "U"}, 5, func(row []string) {
		x := api.Tag{Variants: row, Private: row}
		for at, key := range row {
			x.Exts = append(x.Exts, api.Ext{Key: key, Subs: append(row[at:len(row):len(row)], "b9", "true", "a9", "true")})
		}
		holdOrder(t, x, orderAgain(x))
	})
}

// P1, R5: a great many variants and extensions are put in order soon.
func TestOrderMany(t *testing.T) {
	const count = 1 << 16
	var x api.Tag
	u, other := api.Ext{Key: "u"}, api.Ext{Key: "t", Subs: []string{"en"}}
	for i := range count {
		x.Variants = append(x.Variants, fmt.Sprintf("v%06d", i*7919%count))
		x.Exts = append(x.Exts, api.Ext{Key: fmt.Sprintf("k%06d", i*7919%count), Subs: []string{"b", "a"}})
		u.Subs = append(u.Subs, fmt.Sprintf("a%06d", i*7919%count))
	}
	x.Exts = append(x.Exts, u, other)
	got := canon.Order(x)
	if len(got.Variants) != count || !slices.IsSorted(got.Variants) || !slices.IsSortedFunc(got.Exts, func(a, b api.Ext) int { return strings.Compare(a.Key, b.Key) }) || len(got.Exts) != count+2 {
		t.Error("not in order")
	}
	if last := got.Exts[count+1]; last.Key != "u" || len(last.Subs) != count || !slices.IsSorted(last.Subs) {
		t.Error("u is not in order")
	}
}
