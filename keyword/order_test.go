package keyword_test

import (
	"fmt"
	"slices"
	"strings"
	"testing"

	"isogloss/api"
	"isogloss/keyword"
)

// orders are subtags as they are read, and as they are written in order.
func orders() map[string]string {
	return map[string]string{
		// The chapter's example.
		"foo co true bar ca buddhist co phonebk": "foo ca buddhist co true bar",
		// Attributes alone: rising, each once.
		"": "", "foo": "foo", "foo bar": "bar foo", "foo foo": "foo", "c b a c b a": "a b c", "foo fo1 fooo fo0 f": "f fo0 fo1 foo fooo", "abc abcd abb": "abb abc abcd",
		// Keys alone: rising, of several of one Key the first alone.
		"co ca": "ca co", "ca co": "ca co", "zz aa mm a0 0a": "0a a0 aa mm zz", "co b co a": "co b", "co co a": "co", "co a co": "co a", "co b ca x co a ca y": "ca x co b", "nu z co b nu y": "co b nu z",
		// Just `true` is none, `true` and more stays, also ahead of others of that Key.
		"co true": "co", "co true true": "co true true", "co true a": "co true a", "co a true": "co a true", "co truee": "co truee", "co tru": "co tru", "co TRUE": "co", "co true co a": "co", "co a co true": "co a", "co co true": "co", "true": "true", "true co true ca false": "true ca false co",
		// Subs stay in their order, and may be there twice.
		"co b a b": "co b a b", "foo bar ca z y co d c foo": "bar foo ca z y co d c foo",
		// Great letters are small ones when they are read.
		"Foo bar FOO CO x co y": "bar foo co x",
		// Bytes as they are.
		"日 z 日": "z 日", "\xff é a é z": "\xff é a", "\xff \x01 \x7f \x80": "\x01 \x7f \x80 \xff",
	}
}

// P9.2: what is read of subtags, in order.
func TestOrder(t *testing.T) {
	for s, want := range orders() {
		k := keyword.Read(words(s))
		before := shown(k)
		for range 2 {
			if got := keyword.Write(keyword.Order(k)); !slices.Equal(got, words(want)) {
				t.Errorf("%q is ordered to %q, want %q", s, got, words(want))
			}
		}
		if after := shown(k); after != before {
			t.Errorf("Order changed %s to %s", before, after)
		}
	}
}

// P9.2: what is never read is ordered as it stands, byte by byte.
func TestOrderOthers(t *testing.T) {
	for _, c := range []struct{ k, want api.Keywords }{
		{api.Keywords{}, api.Keywords{}}, {api.Keywords{Attrs: []string{}, Keys: keys()}, api.Keywords{}},
		{api.Keywords{Attrs: words("b B a A _ [ 1 é \xff b B")}, api.Keywords{Attrs: words("1 A B [ _ a b é \xff")}},
		{api.Keywords{Attrs: []string{"a", "", "a", ""}}, api.Keywords{Attrs: []string{"", "a"}}},
		{api.Keywords{Keys: keys(ext("co", "b"), ext("CO", "a"), ext("Co", "c"), ext("cO"), ext("co"))}, api.Keywords{Keys: keys(ext("CO", "a"), ext("Co", "c"), ext("cO"), ext("co", "b"))}},
		{api.Keywords{Keys: keys(ext("co", "TRUE"), ext("ca", "True"), ext("nu", "true"), ext("kn", ""), ext("kf", "true", ""))}, api.Keywords{Keys: keys(ext("ca", "True"), ext("co", "TRUE"), ext("kf", "true", ""), ext("kn", ""), ext("nu"))}},
		{api.Keywords{Keys: keys(ext("abc", "true"), ext("", "true"), ext("ab", "x"), ext("a"), ext("", "y"), ext("abc", "z"))}, api.Keywords{Keys: keys(ext(""), ext("a"), ext("ab", "x"), ext("abc"))}},
		{api.Keywords{Attrs: words("co true ca"), Keys: keys(ext("\xff\xff", "b"), ext("\x7f\x7f", "a"), ext("\xff\xff", "a"))}, api.Keywords{Attrs: words("ca co true"), Keys: keys(ext("\x7f\x7f", "a"), ext("\xff\xff", "b"))}},
		{api.Keywords{Attrs: words("a\x00b a\x00 a")}, api.Keywords{Attrs: words("a a\x00 a\x00b")}},
	} {
		hold(t, "Order("+shown(c.k)+")", keyword.Order(c.k), c.want)
	}
}

// least is the place of the least name that is above another one, the first of that name; -1 if there is none.
func least(names []string, above string, any bool) int {
	at := -1
	for i, n := range names {
		if (any || n > above) && (at < 0 || n < names[at]) {
			at = i
		}
	}
	return at
}

// orderAgain is it in order: the least that is left, again and again.
func orderAgain(k api.Keywords) api.Keywords {
	var out api.Keywords
	for at := least(k.Attrs, "", true); at >= 0; at = least(k.Attrs, k.Attrs[at], false) {
		out.Attrs = append(out.Attrs, k.Attrs[at])
	}
	var names []string
	for _, e := range k.Keys {
		names = append(names, e.Key)
	}
	for at := least(names, "", true); at >= 0; at = least(names, names[at], false) {
		e := k.Keys[at]
		if fmt.Sprintf("%q", e.Subs) == `["true"]` {
			e.Subs = nil
		}
		out.Keys = append(out.Keys, e)
	}
	return out
}

// P9.2, P9.4: what is read of all short rows, in order; ordered twice, and read of what is written, it is the same.
func TestOrderAll(t *testing.T) {
	rows([]string{"", "foo", "bar", "true", "co", "ca", "nu"}, 6, func(row []string) {
		k := keyword.Read(row)
		o := keyword.Order(k)
		what := fmt.Sprintf("Order(Read(%q))", row)
		hold(t, what, o, orderAgain(readAgain(row)))
		hold(t, what+" twice", keyword.Order(o), o)
		hold(t, what+" written and read", keyword.Read(keyword.Write(o)), o)
		hold(t, what+" changed what it was handed", k, readAgain(row))
	})
}

// P9.2, P9.4: what is never read, of all short rows of attributes and of keys.
func TestOrderAllOthers(t *testing.T) {
	rows([]string{"", "a", "A", "b", "ab", "\xff", "co"}, 5, func(row []string) {
		k := api.Keywords{Attrs: slices.Clone(row)}
		for i, s := range row {
			k.Keys = append(k.Keys, ext(s, []string{"true", "x", "true"}[i%3:]...))
		}
		o := keyword.Order(k)
		what := "Order(" + shown(k) + ")"
		hold(t, what, o, orderAgain(k))
		hold(t, what+" twice", keyword.Order(o), o)
	})
}

// P1, R5: a great many things are ordered soon.
func TestOrderMany(t *testing.T) {
	const count = 1 << 16
	for _, step := range []int{1, 7919, count - 1, 2, 0} {
		var k, want api.Keywords
		for i := range count {
			name := fmt.Sprintf("%08d", i*step%count)
			k.Attrs = append(k.Attrs, name)
			k.Keys = append(k.Keys, ext(name, "true"))
		}
		want.Attrs = slices.Clone(k.Attrs)
		slices.Sort(want.Attrs)
		want.Attrs = slices.Compact(want.Attrs)
		for _, name := range want.Attrs {
			want.Keys = append(want.Keys, ext(name))
		}
		hold(t, fmt.Sprintf("Order of many, by %d", step), keyword.Order(k), want)
	}
	long := strings.Repeat("a", 1<<20)
	hold(t, "Order of long ones", keyword.Order(api.Keywords{Attrs: []string{long + "b", long + "a", long, long + "b"}}), api.Keywords{Attrs: []string{long, long + "a", long + "b"}})
	many := slices.Repeat([]string{"true"}, count)
	hold(t, "Order of a long value", keyword.Order(api.Keywords{Keys: keys(ext("co", many...))}), api.Keywords{Keys: keys(ext("co", many...))})
}
