package keyword_test

import (
	"fmt"
	"slices"
	"strings"
	"testing"

	"isogloss/api"
	"isogloss/keyword"
)

// example is the chapter's, with a key that is alone and one of other sizes beside it.
func example() api.Keywords {
	return api.Keywords{Attrs: words("foo"), Keys: keys(ext("co", "true", "bar"), ext("ca", "buddhist"), ext("co", "phonebk"), ext("kn"), ext("abc", "x"), ext("", "y"), ext("NU", "Thai"), ext("nu", "latn"))}
}

// P9.3: a key's value, the first time that the key is there.
func TestGet(t *testing.T) {
	for _, c := range []struct {
		key, want string
		found     bool
	}{
		{"co", "true bar", true}, {"ca", "buddhist", true}, {"kn", "", true}, {"nu", "latn", true},
		// Great letters of what is asked play no part, those of what there is do.
		{"CO", "true bar", true}, {"cA", "buddhist", true}, {"Kn", "", true}, {"NU", "latn", true},
		// None of that key; what is no key of 2 bytes is asked as it stands, in small letters.
		{"va", "", false}, {"c", "", false}, {"coo", "", false}, {"co ", "", false}, {"foo", "", false}, {"é", "", false}, {"\xff\xff", "", false}, {"c\xcf", "", false}, {"bar", "", false}, {"true", "", false}, {"u-", "", false},
		{"abc", "x", true}, {"ABC", "x", true}, {"", "y", true},
	} {
		for range 2 {
			got, found := keyword.Get(example(), c.key)
			if found != c.found || !slices.Equal(got, words(c.want)) {
				t.Errorf("Get(.., %q): %q, %v, want %q, %v", c.key, got, found, words(c.want), c.found)
			}
			if !found && got != nil {
				t.Errorf("Get(.., %q): false with a row", c.key)
			}
		}
	}
}

// P9.3: nothing has no keys.
func TestGetOfNothing(t *testing.T) {
	for _, k := range []api.Keywords{{}, {Attrs: words("co ca"), Keys: keys()}} {
		for _, key := range []string{"co", "CA", "", "foo", "\xff\xff"} {
			if got, found := keyword.Get(k, key); got != nil || found {
				t.Errorf("Get(%s, %q): %q, %v", shown(k), key, got, found)
			}
		}
	}
}

// P9.3: a key's value is another one, or there behind all others.
func TestSet(t *testing.T) {
	k := api.Keywords{Attrs: words("foo Bar"), Keys: keys(ext("co", "a"), ext("ca", "b", "c"), ext("co", "d"), ext("nu"))}
	for _, c := range []struct {
		key, value string
		want       []api.Ext
	}{
		// The first of its Key, where that is the first, the last, or there twice.
		{"co", "x", keys(ext("co", "x"), ext("ca", "b", "c"), ext("co", "d"), ext("nu"))}, {"ca", "x y z", keys(ext("co", "a"), ext("ca", "x", "y", "z"), ext("co", "d"), ext("nu"))}, {"nu", "x", keys(ext("co", "a"), ext("ca", "b", "c"), ext("co", "d"), ext("nu", "x"))},
		// No value; one as it is already; `true`.
		{"co", "", keys(ext("co"), ext("ca", "b", "c"), ext("co", "d"), ext("nu"))}, {"ca", "", keys(ext("co", "a"), ext("ca"), ext("co", "d"), ext("nu"))}, {"nu", "", k.Keys}, {"ca", "b c", k.Keys}, {"nu", "true", keys(ext("co", "a"), ext("ca", "b", "c"), ext("co", "d"), ext("nu", "true"))},
		// One that is not there.
		{"va", "", keys(ext("co", "a"), ext("ca", "b", "c"), ext("co", "d"), ext("nu"), ext("va"))}, {"aa", "x y", keys(ext("co", "a"), ext("ca", "b", "c"), ext("co", "d"), ext("nu"), ext("aa", "x", "y"))}, {"zz", "co ca", keys(ext("co", "a"), ext("ca", "b", "c"), ext("co", "d"), ext("nu"), ext("zz", "co", "ca"))},
		// Great letters of the key, and of the value.
		{"CO", "X Yé É", keys(ext("co", "x", "yé", "É"), ext("ca", "b", "c"), ext("co", "d"), ext("nu"))}, {"Va", "TRUE", keys(ext("co", "a"), ext("ca", "b", "c"), ext("co", "d"), ext("nu"), ext("va", "true"))}, {"zZ", "", keys(ext("co", "a"), ext("ca", "b", "c"), ext("co", "d"), ext("nu"), ext("zz"))},
		// Two bytes are a key, whatever they are.
		{"é", "x", keys(ext("co", "a"), ext("ca", "b", "c"), ext("co", "d"), ext("nu"), ext("é", "x"))}, {"\xffA", "\xff", keys(ext("co", "a"), ext("ca", "b", "c"), ext("co", "d"), ext("nu"), ext("\xffa", "\xff"))}, {"--", "-", keys(ext("co", "a"), ext("ca", "b", "c"), ext("co", "d"), ext("nu"), ext("--", "-"))},
		// Others are none.
		{"", "x", k.Keys}, {"c", "x", k.Keys}, {"coo", "x", k.Keys}, {"co ", "x", k.Keys}, {"日", "x", k.Keys}, {"foo", "", k.Keys},
	} {
		before := shown(k)
		want := api.Keywords{Attrs: k.Attrs, Keys: c.want}
		for range 2 {
			hold(t, fmt.Sprintf("Set(.., %q, %q)", c.key, c.value), keyword.Set(k, c.key, words(c.value)...), want)
		}
		if after := shown(k); after != before {
			t.Errorf("Set changed %s to %s", before, after)
		}
	}
}

// P9.3: what is never read stays, but for the value of the one Key; empty texts are values, too.
func TestSetOthers(t *testing.T) {
	for _, c := range []struct {
		k     api.Keywords
		key   string
		value []string
		want  api.Keywords
	}{
		{api.Keywords{}, "CO", []string{"A"}, api.Keywords{Keys: keys(ext("co", "a"))}}, {api.Keywords{}, "co", nil, api.Keywords{Keys: keys(ext("co"))}}, {api.Keywords{}, "foo", []string{"a"}, api.Keywords{}}, {api.Keywords{}, "", nil, api.Keywords{}},
		{api.Keywords{Keys: keys(ext("CO", "A"))}, "CO", []string{"B"}, api.Keywords{Keys: keys(ext("CO", "A"), ext("co", "b"))}}, {api.Keywords{Keys: keys(ext("CO", "A"), ext("co"), ext("Co"))}, "cO", []string{"", "B"}, api.Keywords{Keys: keys(ext("CO", "A"), ext("co", "", "b"), ext("Co"))}},
		{api.Keywords{Keys: keys(ext("abc", "A"), ext("", "B"))}, "abc", []string{"x"}, api.Keywords{Keys: keys(ext("abc", "A"), ext("", "B"))}}, {api.Keywords{Keys: keys(ext("abc", "A"), ext("", "B"))}, "", []string{"x"}, api.Keywords{Keys: keys(ext("abc", "A"), ext("", "B"))}},
		{api.Keywords{Attrs: []string{"co", "", "FOO"}}, "co", []string{""}, api.Keywords{Attrs: []string{"co", "", "FOO"}, Keys: keys(ext("co", ""))}},
	} {
		hold(t, fmt.Sprintf("Set(%s, %q, %q)", shown(c.k), c.key, c.value), keyword.Set(c.k, c.key, c.value...), c.want)
	}
}

// getAgain is the place of a key, read from the end.
func getAgain(k api.Keywords, key string) int {
	at, lowered := -1, small([]string{key})[0]
	for i := len(k.Keys) - 1; i >= 0; i-- {
		if k.Keys[i].Key == lowered {
			at = i
		}
	}
	return at
}

// holdKey holds what is asked and set of a key against what it must be.
func holdKey(t *testing.T, k api.Keywords, key string, value []string) {
	t.Helper()
	what := fmt.Sprintf("(%s, %q, %q)", shown(k), key, value)
	at := getAgain(k, key)
	var old []string
	if at >= 0 {
		old = k.Keys[at].Subs
	}
	if got, found := keyword.Get(k, key); found != (at >= 0) || !slices.Equal(got, old) {
		t.Errorf("Get%s: %q, %v, want %q, %v", what, got, found, old, at >= 0)
	}
	want := api.Keywords{Attrs: k.Attrs, Keys: slices.Clone(k.Keys)}
	switch {
	case len(key) != 2:
	case at < 0:
		want.Keys = append(want.Keys, ext(small([]string{key})[0], small(value)...))
	default:
		want.Keys[at].Subs = small(value)
	}
	set := keyword.Set(k, key, value...)
	hold(t, "Set"+what, set, want)
	if got, found := keyword.Get(set, key); len(key) == 2 && (!found || !slices.Equal(got, small(value))) {
		t.Errorf("Get of Set%s: %q, %v", what, got, found)
	}
}

// P9.3: what is asked and set of all short rows of keys.
func TestSetAll(t *testing.T) {
	texts := []string{"", "a", "co", "CO", "ca", "nu", "abc", "é"}
	rows(texts, 4, func(row []string) {
		k := api.Keywords{Attrs: words("Foo co")}
		for i, s := range row {
			k.Keys = append(k.Keys, ext(s, []string{"X", "true", "z"}[:(i+1)%4]...))
		}
		before := shown(k)
		for i, key := range append(texts, "va", "cA", "ABC") {
			holdKey(t, k, key, []string{"B", "", "true"}[:i%4])
		}
		if after := shown(k); after != before {
			t.Errorf("%s was changed to %s", before, after)
		}
	})
}

// P1, R5: a great many keys, values and bytes.
func TestSetMany(t *testing.T) {
	const count = 1 << 17
	k := api.Keywords{Attrs: slices.Repeat([]string{"foo"}, count), Keys: slices.Repeat(keys(ext("co", "a")), count)}
	value := slices.Repeat([]string{"X"}, count)
	holdKey(t, k, "co", value)
	holdKey(t, k, "ca", value)
	holdKey(t, k, strings.Repeat("a", count), value)
	k.Keys = append(k.Keys, ext("ca", value...), ext("nu"))
	holdKey(t, k, "CA", nil)
	holdKey(t, k, "nu", []string{strings.Repeat("Ab", count)})
}
