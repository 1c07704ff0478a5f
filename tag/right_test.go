package tag_test

import (
	"slices"
	"strings"
	"testing"

	"isogloss/api"
	"isogloss/grand"
	"isogloss/tag"
)

// holdRight holds what Right tells of a tag against what it must, and that the tag stays as it was.
func holdRight(t *testing.T, x api.Tag, want bool) {
	t.Helper()
	before := shown(x)
	for range 2 {
		if got := tag.Right(x); got != want {
			t.Errorf("Right(%s): %v, want %v", before, got, want)
		}
	}
	if after := shown(x); after != before {
		t.Errorf("Right changed %s to %s", before, after)
	}
}

// full is a right tag with all fields that may be there together.
func full() api.Tag {
	return api.Tag{
		Lang: "zh", Extlang: []string{"yue", "min", "cmn"}, Script: "hant", Region: "hk", Variants: []string{"1994", "scouse"},
		Exts:    []api.Ext{ext("u", "co", "true"), ext("t", "en", "m0"), ext("0", "12345678")},
		Private: []string{"a", "x", "12345678"},
	}
}

// ext is an extension.
func ext(key string, subs ...string) api.Ext { return api.Ext{Key: key, Subs: subs} }

// rightTags are right tags of the third make, each with a field or two beside Lang.
func rightTags() []api.Tag {
	return []api.Tag{
		{Lang: "en"}, {Lang: "eng"}, {Lang: "hant"}, {Lang: "abcde"}, {Lang: "abcdefgh"}, {Lang: "und"}, {Lang: "xx"}, {Lang: "root"},
		{Lang: "zh", Extlang: []string{"yue"}}, {Lang: "zho", Extlang: []string{"yue"}}, {Lang: "zh", Extlang: []string{"yue", "yue", "yue"}}, {Lang: "hant", Extlang: []string{}},
		{Lang: "sr", Script: "latn"}, {Lang: "abcdefgh", Script: "latn"}, {Lang: "en", Region: "us"}, {Lang: "es", Region: "419"}, {Lang: "es", Region: "000"},
		{Lang: "de", Variants: []string{"1901"}}, {Lang: "de", Variants: []string{"1901", "1996", "abcde", "12345678"}}, {Lang: "de", Variants: []string{"scouse", "1abc", "baku1926"}},
		{Lang: "en", Exts: []api.Ext{ext("u", "ab")}}, {Lang: "en", Exts: []api.Ext{ext("a", "12"), ext("0", "12"), ext("9", "abcdefgh", "abcdefgh")}},
		{Lang: "en", Exts: []api.Ext{ext("u", "ab"), ext("t", "ab")}}, {Lang: "en", Exts: []api.Ext{ext("y", "ab"), ext("w", "xx")}},
		{Lang: "en", Private: []string{"a"}}, {Lang: "en", Private: []string{"x", "x"}}, {Lang: "en", Private: []string{"abcdefgh", "1"}},
		{Lang: "zh", Extlang: []string{"min"}, Region: "tw"}, {Lang: "zh", Extlang: []string{"min", "yue"}}, {Lang: "zh", Extlang: []string{"min", "nan", "min"}},
		{Lang: "zh", Extlang: []string{"nan", "min"}}, {Lang: "zh", Extlang: []string{"min", "nan"}, Private: []string{"a"}}, {Lang: "no", Extlang: []string{"bok"}, Region: "no"},
		{Lang: "art", Variants: []string{"lojban", "lojbam"}}, {Lang: "lojban"}, {Lang: "sgn", Region: "be"}, {Lang: "en", Region: "gb"},
		{Lang: "zh", Variants: []string{"guoyu", "hakka"}}, {Lang: "zh", Region: "cn", Variants: []string{"xiang"}},
		{Lang: "en", Extlang: []string{}, Variants: []string{}, Exts: []api.Ext{}, Private: []string{}},
		full(),
	}
}

// P6.2: tags of the third make, language tags.
func TestLanguageTags(t *testing.T) {
	for _, x := range rightTags() {
		holdRight(t, x, true)
	}
}

// P6.2: tags of the first make, a Grand alone.
func TestGrandTags(t *testing.T) {
	for _, name := range grand.All() {
		holdRight(t, api.Tag{Grand: name}, true)
		holdRight(t, api.Tag{Grand: name, Extlang: []string{}, Variants: []string{}, Exts: []api.Ext{}, Private: []string{}}, true)
		holdRight(t, api.Tag{Grand: strings.ToUpper(name)}, false)
		holdRight(t, api.Tag{Grand: strings.ToUpper(name[:1]) + name[1:]}, false)
		holdRight(t, api.Tag{Grand: name + "-x-a"}, false)
		holdRight(t, api.Tag{Grand: name[1:]}, false)
		for _, x := range []api.Tag{
			{Lang: "en"}, {Lang: name}, {Lang: "i"}, {Extlang: []string{"yue"}}, {Script: "latn"}, {Region: "us"}, {Variants: []string{"1994"}}, {Exts: []api.Ext{ext("u", "ab")}}, {Private: []string{"a"}},
			{Extlang: []string{""}}, {Variants: []string{""}}, {Exts: []api.Ext{{}}}, {Private: []string{""}}, full(),
		} {
			x.Grand = name
			holdRight(t, x, false)
		}
	}
	for _, s := range []string{"i-ama", "i", "-", "en", "x-a", "zh-yue", "i-", "i-ami-", "i-ami ", "i_ami", "i-am\xc3", "ı-ami", "\xff"} {
		holdRight(t, api.Tag{Grand: s}, false)
		for _, x := range rightTags() {
			x.Grand = s
			holdRight(t, x, false)
		}
	}
}

// P6.2: tags of the second make, Private alone.
func TestPrivateTags(t *testing.T) {
	for _, row := range [][]string{{"a"}, {"x"}, {"1"}, {"a", "a"}, {"abcdefgh", "12345678", "a1", "en", "u"}} {
		holdRight(t, api.Tag{Private: row}, true)
		holdRight(t, api.Tag{Private: row, Extlang: []string{}, Variants: []string{}, Exts: []api.Ext{}}, true)
		for _, x := range []api.Tag{
			{Lang: "x"}, {Extlang: []string{"yue"}}, {Script: "latn"}, {Region: "us"}, {Variants: []string{"1994"}}, {Exts: []api.Ext{ext("u", "ab")}}, {Grand: "i-ami"}, {Grand: "i"},
			{Extlang: []string{""}}, {Variants: []string{""}}, {Exts: []api.Ext{{}}},
		} {
			x.Private = row
			holdRight(t, x, false)
		}
	}
	for _, s := range []string{"", "abcdefghi", "A", "aB", "-", "a-b", "a-", "a_b", "é", "\xff", " ", "*"} {
		for _, row := range [][]string{{s}, {"a", s}, {s, "a"}, {"a", s, "a"}} {
			holdRight(t, api.Tag{Private: row}, false)
			holdRight(t, api.Tag{Lang: "en", Private: row}, false)
		}
	}
}

// P6.2: nothing is no tag, and no field but Private alone can be there without a language.
func TestWithoutLanguage(t *testing.T) {
	holdRight(t, api.Tag{}, false)
	holdRight(t, api.Tag{Extlang: []string{}, Variants: []string{}, Exts: []api.Ext{}, Private: []string{}}, false)
	for _, x := range rightTags() {
		x.Lang = ""
		holdRight(t, x, len(x.Private) > 0 && len(tag.Subtags(x)) == 1+len(x.Private))
	}
}

// P6.2: a right tag with one field that is wrong.
func TestWrongFields(t *testing.T) {
	for _, s := range []string{"e", "x", "i", "12", "e1", "419", "abcdefghi", "En", "EN", "é", "e\xff", "en-us", "en-", "-en", "e_n", "*", "en ", "i-ami"} {
		x := full()
		x.Lang = s
		holdRight(t, x, false)
		holdRight(t, api.Tag{Lang: s}, false)
	}
	for _, s := range []string{"lat", "latnn", "lat1", "1994", "Latn", "latN", "la-n", "l\xffn", "laté", "419", "us", "*"} {
		x := full()
		x.Script = s
		holdRight(t, x, false)
		holdRight(t, api.Tag{Lang: "en", Script: s}, false)
	}
	for _, s := range []string{"u", "usa", "41", "4199", "41a", "u1", "1u", "US", "uS", "u-", "é", "\xff\xff", "41\x00", "*", "latn", "1994"} {
		x := full()
		x.Region = s
		holdRight(t, x, false)
		holdRight(t, api.Tag{Lang: "en", Region: s}, false)
	}
}

// P6.2: a text that is wrong, at each place of a row.
func TestWrongRows(t *testing.T) {
	wrong := map[string][]string{
		"extlang":   {"", "yu", "yuee", "419", "yu1", "Yue", "YUE", "y-e", "yé", "yu\xff"},
		"variant":   {"", "a", "abcd", "a123", "abc", "123", "abcdefghi", "123456789", "Scous", "1ABC", "abc-def", "-1234", "1-23", "abcd\xff", "abcé", "abcd ", "*"},
		"extension": {"", "a", "1", "x", "abcdefghi", "123456789", "Co", "CO", "a-b", "-a", "é", "a\xff", "c_o", "a ", "*"},
	}
	for _, s := range wrong["extlang"] {
		for at := range 3 {
			x := full()
			x.Extlang[at] = s
			holdRight(t, x, false)
		}
		holdRight(t, api.Tag{Lang: "zh", Extlang: []string{s}}, false)
	}
	for _, s := range wrong["variant"] {
		for at := range 2 {
			x := full()
			x.Variants[at] = s
			holdRight(t, x, false)
		}
		holdRight(t, api.Tag{Lang: "en", Variants: []string{s}}, false)
	}
	for _, s := range wrong["extension"] {
		for at := range 3 {
			for sub := range full().Exts[at].Subs {
				x := full()
				x.Exts[at].Subs[sub] = s
				holdRight(t, x, false)
			}
		}
		holdRight(t, api.Tag{Lang: "en", Exts: []api.Ext{ext("u", s)}}, false)
	}
}

// P6.2: up to 3 extlangs, behind a language of 2 or 3 letters alone.
func TestExtlangs(t *testing.T) {
	for count := range 6 {
		row := slices.Repeat([]string{"yue"}, count)
		for lang, short := range map[string]bool{"zh": true, "zho": true, "zhon": false, "zhong": false, "zhongwen": false} {
			holdRight(t, api.Tag{Lang: lang, Extlang: row}, count == 0 || count <= 3 && short)
			holdRight(t, api.Tag{Lang: lang, Extlang: row, Region: "tw"}, count == 0 || count <= 3 && short)
		}
	}
}

// P6.2: no variant is there twice, wherever it stands.
func TestVariantsTwice(t *testing.T) {
	for _, row := range [][]string{{"1994", "1994"}, {"1994", "scouse", "1994"}, {"scouse", "1994", "1994"}, {"1994", "1994", "1994"}, {"1994", "scouse", "fonipa", "1901", "scouse"}} {
		holdRight(t, api.Tag{Lang: "en", Variants: row}, false)
	}
}

// P6.2: an extension has a singleton of its own, and something behind it.
func TestExtensions(t *testing.T) {
	for b := range 256 {
		c := byte(b)
		want := c != 'x' && (c >= 'a' && c <= 'z' || c >= '0' && c <= '9')
		holdRight(t, api.Tag{Lang: "en", Exts: []api.Ext{ext(string([]byte{c}), "ab")}}, want)
	}
	for _, key := range []string{"", "uu", "u-", "-u", "é", "en", "ab"} {
		holdRight(t, api.Tag{Lang: "en", Exts: []api.Ext{ext(key, "ab")}}, false)
		holdRight(t, api.Tag{Lang: "en", Exts: []api.Ext{ext("u", "ab"), ext(key, "ab")}}, false)
	}
	for _, exts := range [][]api.Ext{
		{ext("u")}, {{Key: "u", Subs: []string{}}}, {ext("u", "ab"), ext("t")}, {ext("t"), ext("u", "ab")}, {{}},
		{ext("u", "ab"), ext("u", "ab")}, {ext("u", "ab"), ext("u", "cd")}, {ext("u", "ab"), ext("t", "ab"), ext("u", "ab")}, {ext("0", "ab"), ext("u", "ab"), ext("t", "ab"), ext("0", "cd")},
	} {
		holdRight(t, api.Tag{Lang: "en", Exts: exts}, false)
	}
}

// P6.2: each text of a right tag in great letters makes it wrong, one letter of it, too.
func TestGreatLetters(t *testing.T) {
	for _, x := range rightTags() {
		for _, s := range spots(&x) {
			was := *s
			for at := range len(was) {
				if was[at] < 'a' || was[at] > 'z' {
					continue
				}
				*s = was[:at] + strings.ToUpper(was[at:at+1]) + was[at+1:]
				holdRight(t, x, false)
				*s = was[:at] + string([]byte{was[at] | 0x80}) + was[at+1:]
				holdRight(t, x, false)
			}
			*s = was
		}
		holdRight(t, x, true)
	}
}

// P6.2: fields whose text is a grandfathered tag are none.
func TestGrandfatheredTexts(t *testing.T) {
	for _, x := range []api.Tag{
		{Lang: "art", Variants: []string{"lojban"}}, {Lang: "cel", Variants: []string{"gaulish"}},
		{Lang: "no", Extlang: []string{"bok"}}, {Lang: "no", Extlang: []string{"nyn"}},
		{Lang: "zh", Variants: []string{"guoyu"}}, {Lang: "zh", Variants: []string{"hakka"}}, {Lang: "zh", Variants: []string{"xiang"}},
		{Lang: "zh", Extlang: []string{"min"}}, {Lang: "zh", Extlang: []string{"min", "nan"}},
		{Lang: "en", Region: "gb", Variants: []string{"oed"}}, {Lang: "sgn", Region: "be", Extlang: []string{"fr"}}, {Lang: "i", Extlang: []string{"ami"}},
	} {
		holdRight(t, x, false)
		x.Private = []string{"a"}
		holdRight(t, x, tag.Language(x.Lang) && x.Region == "")
	}
}

// P1, R5: a great many things are asked soon, and one of them that is wrong is found.
func TestManyThings(t *testing.T) {
	const count = 1 << 16
	x := api.Tag{Lang: "en"}
	for i := range count {
		x.Variants = append(x.Variants, number(i))
		x.Private = append(x.Private, "a")
	}
	x.Exts = []api.Ext{ext("u", x.Variants...), ext("t", x.Variants...)}
	holdRight(t, x, true)
	y := tag.Clone(x)
	y.Variants[count-1] = y.Variants[0]
	holdRight(t, y, false)
	y = tag.Clone(x)
	y.Exts[1].Subs[count-1] = "a"
	holdRight(t, y, false)
	y = tag.Clone(x)
	y.Private[count-1] = "A"
	holdRight(t, y, false)
	y = tag.Clone(x)
	y.Exts = slices.Repeat([]api.Ext{ext("u", "ab")}, count)
	holdRight(t, y, false)
}

// R5: fields of any size are answered.
func TestLongFields(t *testing.T) {
	long := strings.Repeat("ab", 1<<15)
	for _, x := range rightTags() {
		for _, s := range spots(&x) {
			was := *s
			*s = long
			holdRight(t, x, false)
			*s = was
		}
	}
	holdRight(t, api.Tag{Grand: long}, false)
	holdRight(t, api.Tag{Grand: strings.Repeat("-", 1<<20)}, false)
}
