package tag_test

import (
	"fmt"
	"slices"
	"strings"
	"testing"

	"isogloss/api"
	"isogloss/tag"
)

// shown tells all of a tag.
func shown(x api.Tag) string {
	s := fmt.Sprintf("%#v", x)
	if len(s) > 2000 {
		return fmt.Sprintf("%.300s.. of %d bytes", s, len(s))
	}
	return s
}

// number is a variant of its own for each number.
func number(i int) string { return fmt.Sprintf("%08d", i) }

// spots are the places of all texts of a tag that are there.
func spots(x *api.Tag) []*string {
	var all []*string
	for _, s := range []*string{&x.Lang, &x.Script, &x.Region, &x.Grand} {
		if *s != "" {
			all = append(all, s)
		}
	}
	for _, row := range [][]string{x.Extlang, x.Variants, x.Private} {
		for i := range row {
			all = append(all, &row[i])
		}
	}
	for i := range x.Exts {
		all = append(all, &x.Exts[i].Key)
		for j := range x.Exts[i].Subs {
			all = append(all, &x.Exts[i].Subs[j])
		}
	}
	return all
}

// strange are tags that may not be, and differ all from each other.
func strange() []api.Tag {
	return []api.Tag{
		{}, {Lang: "a"}, {Script: "a"}, {Region: "a"}, {Grand: "a"}, {Extlang: []string{"a"}}, {Variants: []string{"a"}}, {Private: []string{"a"}}, {Exts: []api.Ext{{Key: "a"}}}, {Exts: []api.Ext{ext("", "a")}},
		{Extlang: []string{""}}, {Variants: []string{""}}, {Private: []string{""}}, {Exts: []api.Ext{{}}}, {Exts: []api.Ext{ext("", "")}}, {Exts: []api.Ext{{}, {}}},
		{Extlang: []string{"", ""}}, {Variants: []string{"", ""}}, {Private: []string{"", ""}}, {Exts: []api.Ext{ext("", "", "")}},
		{Lang: "A"}, {Grand: "A"}, {Private: []string{"A"}}, {Variants: []string{"A"}}, {Extlang: []string{"A"}}, {Script: "A"}, {Region: "A"}, {Exts: []api.Ext{{Key: "A"}}}, {Exts: []api.Ext{ext("", "A")}},
		{Lang: "a", Script: "a"}, {Script: "a", Region: "a"}, {Lang: "a", Region: "a"}, {Lang: "a", Grand: "a"}, {Lang: "\xff"}, {Lang: "é"},
		{Variants: []string{"a", "b"}}, {Variants: []string{"b", "a"}}, {Variants: []string{"a", "b", "c"}}, {Variants: []string{"a-b"}}, {Variants: []string{"ab"}},
		{Private: []string{"a", "b"}}, {Private: []string{"x", "a"}}, {Extlang: []string{"a", "b"}},
		{Exts: []api.Ext{ext("a", "b")}}, {Exts: []api.Ext{ext("a", "b", "c")}}, {Exts: []api.Ext{ext("a", "b"), ext("c")}}, {Exts: []api.Ext{ext("a"), ext("b", "c")}}, {Exts: []api.Ext{ext("a"), ext("b")}},
		{Exts: []api.Ext{ext("b"), ext("a")}}, {Exts: []api.Ext{ext("a", "c", "b")}}, {Exts: []api.Ext{ext("a", "b"), ext("c", "d")}}, {Exts: []api.Ext{ext("c", "d"), ext("a", "b")}},
		{Lang: "en", Exts: []api.Ext{ext("x", "a")}}, {Lang: "en", Private: []string{"a"}}, {Variants: []string{"x"}, Private: []string{"a"}},
		full(),
	}
}

// hollow is a tag with empty rows in the place of none.
func hollow(x api.Tag) api.Tag {
	x = tag.Clone(x)
	fill := func(row []string) []string { return append([]string{}, row...) }
	x.Extlang, x.Variants, x.Private, x.Exts = fill(x.Extlang), fill(x.Variants), fill(x.Private), append([]api.Ext{}, x.Exts...)
	for i, e := range x.Exts {
		x.Exts[i].Subs = fill(e.Subs)
	}
	return x
}

// P6.2: tags are the same if all their fields are, and no others.
func TestSame(t *testing.T) {
	all := append(strange(), rightTags()[:8]...)
	for i, a := range all {
		for j, b := range all {
			if got := tag.Same(a, b); got != (i == j) {
				t.Errorf("Same(%s, %s): %v", shown(a), shown(b), got)
			}
		}
	}
}

// P6.2: an empty row is the same as none.
func TestSameEmpty(t *testing.T) {
	for _, x := range append(strange(), rightTags()...) {
		y := hollow(x)
		if !tag.Same(x, y) || !tag.Same(y, x) || !tag.Same(y, hollow(x)) {
			t.Errorf("Same(%s, %s): false", shown(x), shown(y))
		}
	}
}

// P6.2: a text that is another one, by its case, too, makes another tag.
func TestSameTexts(t *testing.T) {
	for _, x := range rightTags() {
		y := tag.Clone(x)
		for _, s := range spots(&y) {
			was := *s
			for _, other := range []string{"", was + "a", was[1:], strings.ToUpper(was) + "Z", "\xff"} {
				if *s = other; tag.Same(x, y) || tag.Same(y, x) {
					t.Errorf("Same(%s, %s): true", shown(x), shown(y))
				}
			}
			if *s = strings.ToUpper(was); tag.Same(x, y) != (*s == was) {
				t.Errorf("Same(%s, %s): %v", shown(x), shown(y), *s != was)
			}
			*s = was
		}
	}
}

// P6.2: a clone is the same.
func TestClone(t *testing.T) {
	for _, x := range append(strange(), rightTags()...) {
		for _, x := range []api.Tag{x, hollow(x), {Grand: "i-ami", Lang: x.Lang, Private: x.Private}} {
			before := shown(x)
			y := tag.Clone(x)
			if !tag.Same(x, y) || shown(y) != before || shown(x) != before {
				t.Errorf("Clone(%s): %s", before, shown(y))
			}
		}
	}
}

// spoil puts other texts into all rows of a tag, and behind their ends, where their memory goes on.
func spoil(x api.Tag) {
	for i := range x.Exts {
		spoilRow(x.Exts[i].Subs)
		x.Exts[i] = ext("spoilt", "spoilt")
	}
	for i := range x.Exts[len(x.Exts):cap(x.Exts)] {
		x.Exts[:cap(x.Exts)][len(x.Exts)+i] = ext("spoilt")
	}
	for _, row := range [][]string{x.Extlang, x.Variants, x.Private} {
		spoilRow(row)
	}
}

func spoilRow(row []string) {
	row = row[:cap(row)]
	for i := range row {
		row[i] = "spoilt"
	}
}

// R3: a clone shares no row with what it was made of, an extension's Subs included; nor two rows of one.
func TestCloneIsNew(t *testing.T) {
	for _, x := range append(strange(), rightTags()...) {
		before := shown(x)
		y, z := tag.Clone(x), tag.Clone(x)
		spoil(y)
		if shown(x) != before || shown(z) != before {
			t.Errorf("a clone of %s, changed: %s and %s", before, shown(x), shown(z))
		}
		x = tag.Clone(z)
		spoil(x)
		if shown(z) != before {
			t.Errorf("%s, its clone changed with it: %s", before, shown(z))
		}
	}
	row := []string{"12345", "abcde"}
	x := api.Tag{Lang: "en", Variants: row, Private: row, Exts: []api.Ext{ext("u", row...), ext("t", row...)}}
	y := tag.Clone(x)
	y.Variants[0], y.Private[1], y.Exts[0].Subs[0] = "a", "b", "c"
	y.Exts[0].Subs = append(y.Exts[0].Subs[:1], "d")
	want := api.Tag{Lang: "en", Variants: []string{"a", "abcde"}, Private: []string{"12345", "b"}, Exts: []api.Ext{ext("u", "c", "d"), ext("t", "12345", "abcde")}}
	if shown(y) != shown(want) || !slices.Equal(row, []string{"12345", "abcde"}) {
		t.Errorf("rows of a clone share memory: %s, %q", shown(y), row)
	}
}

// R3: a clone of a piece of a row doesn't share what lies behind that.
func TestCloneOfPieces(t *testing.T) {
	row := []string{"12345", "abcde", "fghij"}
	exts := []api.Ext{ext("u", "ab"), ext("t", "ab")}
	x := api.Tag{Lang: "en", Extlang: row[:0], Variants: row[:1], Private: row[:2], Exts: exts[:1]}
	y := tag.Clone(x)
	y.Extlang, y.Variants, y.Private, y.Exts = append(y.Extlang, "a"), append(y.Variants, "a"), append(y.Private, "a"), append(y.Exts, api.Ext{})
	if !slices.Equal(row, []string{"12345", "abcde", "fghij"}) || exts[1].Key != "t" {
		t.Errorf("a clone shares rows: %q, %v", row, exts)
	}
}

// P6.2: all texts of a tag, in order.
func TestSubtags(t *testing.T) {
	for _, c := range []struct {
		x    api.Tag
		want string
	}{
		{api.Tag{}, ""}, {api.Tag{Lang: "en"}, "en"}, {api.Tag{Script: "latn"}, "latn"}, {api.Tag{Region: "us"}, "us"}, {api.Tag{Private: []string{"a"}}, "x a"}, {api.Tag{Private: []string{}}, ""},
		{full(), "zh yue min cmn hant hk 1994 scouse u co true t en m0 0 12345678 x a x 12345678"},
		{api.Tag{Lang: "sr", Script: "latn", Region: "rs", Variants: []string{"ekavsk"}, Exts: []api.Ext{ext("u", "co", "true")}, Private: []string{"x"}}, "sr latn rs ekavsk u co true x x"},
		{api.Tag{Lang: "en", Variants: []string{"scouse", "1994", "scouse"}}, "en scouse 1994 scouse"},
		{api.Tag{Lang: "en", Exts: []api.Ext{ext("u", "b", "a"), ext("a"), ext("u", "c")}}, "en u b a a u c"},
		{api.Tag{Region: "us", Script: "latn", Extlang: []string{"yue"}}, "yue latn us"}, {api.Tag{Lang: "EN", Region: "Us", Private: []string{"A"}}, "EN Us x A"},
		{api.Tag{Lang: "en-us", Variants: []string{"a-b"}}, "en-us a-b"}, {api.Tag{Lang: "\xff", Private: []string{"é"}}, "\xff x é"},
		{api.Tag{Grand: "i-ami"}, "i ami"}, {api.Tag{Grand: "zh-min-nan"}, "zh min nan"}, {api.Tag{Grand: "I-AMI"}, "I AMI"}, {api.Tag{Grand: "en"}, "en"}, {api.Tag{Grand: "a-b-c-d"}, "a b c d"},
	} {
		for range 2 {
			if got := tag.Subtags(c.x); !slices.Equal(got, strings.Fields(c.want)) {
				t.Errorf("Subtags(%s): %q, want %s", shown(c.x), got, c.want)
			}
		}
	}
}

// P6.2: of a tag with a Grand its pieces alone, whatever else is there, and whatever they are.
func TestSubtagsOfGrand(t *testing.T) {
	for grand, want := range map[string][]string{"i-ami": {"i", "ami"}, "-": {"", ""}, "a--b": {"a", "", "b"}, "a": {"a"}, "en-": {"en", ""}, "\xff-é": {"\xff", "é"}, "x y": {"x y"}} {
		for _, x := range append(strange(), rightTags()...) {
			x.Grand = grand
			if got := tag.Subtags(x); !slices.Equal(got, want) {
				t.Errorf("Subtags(%s): %q, want %q", shown(x), got, want)
			}
		}
	}
}

// P6.2: a text of a row is there, an empty one, too; a field without text is not.
func TestSubtagsOfEmptyTexts(t *testing.T) {
	for _, c := range []struct {
		x    api.Tag
		want []string
	}{
		{api.Tag{Extlang: []string{""}}, []string{""}}, {api.Tag{Variants: []string{"", "a"}}, []string{"", "a"}}, {api.Tag{Private: []string{""}}, []string{"x", ""}},
		{api.Tag{Exts: []api.Ext{{}}}, []string{""}}, {api.Tag{Exts: []api.Ext{ext("", "a"), ext("u", "")}}, []string{"", "a", "u", ""}}, {api.Tag{Lang: "en", Exts: []api.Ext{}}, []string{"en"}},
	} {
		if got := tag.Subtags(c.x); !slices.Equal(got, c.want) {
			t.Errorf("Subtags(%s): %q, want %q", shown(c.x), got, c.want)
		}
	}
}

// R3: what Subtags tells is the caller's.
func TestSubtagsIsNew(t *testing.T) {
	for _, x := range append(strange(), rightTags()...) {
		before := shown(x)
		first := tag.Subtags(x)
		want := slices.Clone(first)
		spoilRow(first)
		if got := tag.Subtags(x); shown(x) != before || !slices.Equal(got, want) {
			t.Errorf("Subtags(%s), changed: %q, want %q", before, got, want)
		}
	}
	row := []string{"12345", "abcde", "fghij"}
	for _, x := range []api.Tag{{Extlang: row[:1], Region: "us"}, {Variants: row[:1], Private: []string{"a"}}, {Private: row[:1]}, {Exts: []api.Ext{ext("u", row[:1]...), ext("t", "a")}}} {
		spoilRow(tag.Subtags(x))
	}
	if !slices.Equal(row, []string{"12345", "abcde", "fghij"}) {
		t.Errorf("Subtags shares rows: %q", row)
	}
}

// R5: rows of any size are told, copied and held against each other.
func TestLongRows(t *testing.T) {
	const count = 1 << 18
	row := slices.Repeat([]string{"a"}, count)
	x := api.Tag{Extlang: row, Variants: row, Private: row, Exts: slices.Repeat([]api.Ext{ext("u", "a", "b")}, count)}
	if got := len(tag.Subtags(x)); got != 6*count+1 {
		t.Errorf("Subtags: %d, want %d", got, 6*count+1)
	}
	y := tag.Clone(x)
	if !tag.Same(x, y) {
		t.Error("Clone: another one")
	}
	if y.Exts[count-1].Subs[1] = "c"; tag.Same(x, y) {
		t.Error("Same: true, want false")
	}
}

// The chapter's examples.
func TestExamples(t *testing.T) {
	if !tag.Variant("1994") || tag.Variant("arev") || !tag.Region("419") {
		t.Errorf("%v, %v, %v, want true, false, true", tag.Variant("1994"), tag.Variant("arev"), tag.Region("419"))
	}
}
