package canon_test

import (
	"fmt"
	"slices"
	"sort"
	"strings"
	"testing"

	"isogloss/api"
	"isogloss/canon"
	"isogloss/parse"
	"isogloss/rewrite"
	"isogloss/tag"
)

// kindWords are the kinds of aliases, by name.
var kindWords = map[string]int{"grand": 1, "pair": 2, "lang": 3, "script": 4, "region": 5, "variant": 6, "type": 7}

// alias is one of the words of a text: its kind, A, B, L, S and R, with `-` for an empty one.
func alias(s string) api.Alias {
	var w [6]string
	for at, word := range strings.Fields(s) {
		if word != "-" {
			w[at] = word
		}
	}
	if kindWords[w[0]] == 0 {
		panic("no kind: " + s)
	}
	return api.Alias{Kind: kindWords[w[0]], A: w[1], B: w[2], L: w[3], S: w[4], R: w[5]}
}

// with is an image with just these aliases.
func with(all ...string) api.Image {
	var im api.Image
	for _, s := range all {
		im.Aliases = append(im.Aliases, alias(s))
	}
	return im
}

// of is the tag of a text.
func of(s string) api.Tag {
	x, e := parse.Parse(s)
	if e != nil {
		panic(s + ": " + e.Error())
	}
	return x
}

// extension is one of a text's words: its Key, and its Subs.
func extension(s string) api.Ext {
	key, rest, _ := strings.Cut(s, " ")
	return api.Ext{Key: key, Subs: strings.Fields(rest)}
}

// extensions is a tag with these extensions, each of a text's words.
func extensions(all ...string) api.Tag {
	x := api.Tag{Lang: "en"}
	for _, s := range all {
		x.Exts = append(x.Exts, extension(s))
	}
	return x
}

// said is a tag, or an image, as a text, in which nothing is left out.
func said(x any) string { return fmt.Sprintf("%+q", x) }

// lower is a text with small letters instead of great ones, of ASCII alone.
func lower(s string) string {
	b := []byte(s)
	for i, c := range b {
		if c >= 'A' && c <= 'Z' {
			b[i] = c + 32
		}
	}
	return string(b)
}

// isField tells whether a text is the key of a field of `t`.
func isField(s string) bool {
	return len(s) == 2 && lower(s)[0] >= 'a' && lower(s)[0] <= 'z' && s[1] >= '0' && s[1] <= '9'
}

// parts cuts subtags ahead of each key: what is ahead of all of them, and, by the keys' first places, what each is.
func parts(subs []string, key func(s string) bool) ([]string, [][]string) {
	var ahead []string
	var keyed [][]string
	for _, s := range subs {
		switch {
		case key(s):
			keyed = append(keyed, []string{s})
		case len(keyed) == 0:
			ahead = append(ahead, s)
		default:
			keyed[len(keyed)-1] = append(keyed[len(keyed)-1], s)
		}
	}
	return ahead, keyed
}

// rising are what keys say, by rising keys, of several of one key the first alone.
func rising(keyed [][]string) []string {
	by := map[string][]string{}
	var keys, out []string
	for _, row := range keyed {
		if by[row[0]] == nil {
			by[row[0]] = row
			keys = append(keys, row[0])
		}
	}
	sort.Strings(keys)
	for _, key := range keys {
		out = append(out, by[key]...)
	}
	return out
}

// localeAgain are the subtags of an extension `u` in order, once more.
func localeAgain(subs []string) []string {
	var small []string
	for _, s := range subs {
		small = append(small, lower(s))
	}
	attrs, keyed := parts(small, func(s string) bool { return len(s) == 2 })
	sort.Strings(attrs)
	for i, row := range keyed {
		if len(row) == 2 && row[1] == "true" {
			keyed[i] = row[:1]
		}
	}
	return append(slices.Compact(attrs), rising(keyed)...)
}

// transformedAgain are the subtags of an extension `t` in order, once more.
func transformedAgain(subs []string) []string {
	var small []string
	for _, s := range subs {
		small = append(small, lower(s))
	}
	lang, keyed := parts(small, isField)
	if x, e := parse.Parse(strings.Join(lang, "-")); e == nil && x.Grand == "" && len(x.Exts)+len(x.Private) == 0 {
		lang = strings.Split(strings.Join(lang, "-"), "-")
		sort.Strings(lang[len(lang)-len(x.Variants):])
	}
	return append(lang, rising(keyed)...)
}

// orderAgain is a tag in order, once more.
func orderAgain(t api.Tag) api.Tag {
	out := tag.Clone(t)
	sort.Strings(out.Variants)
	out.Exts = nil
	var keys []string
	for _, e := range t.Exts {
		keys = append(keys, e.Key)
	}
	sort.Strings(keys)
	for _, key := range slices.Compact(keys) {
		for _, e := range t.Exts {
			if e.Key != key {
				continue
			}
			subs := slices.Clone(e.Subs)
			if key == "u" {
				subs = localeAgain(subs)
			}
			if key == "t" {
				subs = transformedAgain(subs)
			}
			out.Exts = append(out.Exts, api.Ext{Key: key, Subs: subs})
		}
	}
	return out
}

// canonicalAgain is what a tag is called now, once more: step by step, as many as Trace tells at most.
func canonicalAgain(im api.Image, t api.Tag) api.Tag {
	now, found := t, true
	for left := 10 + len(tag.Subtags(t)); found && left > 0; left-- {
		now, _, found = rewrite.Step(im, now)
	}
	return orderAgain(now)
}

// texts are all rows of a tag.
func texts(x api.Tag) [][]string {
	rows := [][]string{x.Extlang, x.Variants, x.Private}
	for _, e := range x.Exts {
		rows = append(rows, e.Subs)
	}
	return rows
}

// spoil writes into all rows of a tag, up to what they could hold, and tells whether two of them share anything.
func spoil(x api.Tag) bool {
	rows := texts(x)
	for at, row := range rows {
		row = row[:cap(row)]
		for i := range row {
			row[i] = fmt.Sprint("spoilt ", at)
		}
	}
	shared := false
	for at, row := range rows {
		for _, s := range row[:cap(row)] {
			shared = shared || s != fmt.Sprint("spoilt ", at)
		}
	}
	for i := range x.Exts[:cap(x.Exts)] {
		x.Exts[:cap(x.Exts)][i] = api.Ext{Key: "spoilt"}
	}
	return shared
}

// holdOwn holds that what is told is the caller's, and that what was asked is as it was.
func holdOwn(t *testing.T, im api.Image, x, got api.Tag, before, asked string) {
	t.Helper()
	if spoil(got) {
		t.Fatalf("(%.300s, %.300s): rows of what is told share something", before, asked)
	}
	if said(im) != before || said(x) != asked {
		t.Fatalf("(%.300s, %.300s) is changed, or shares with what is told, to (%.300s, %.300s)", before, asked, said(im), said(x))
	}
}

// holdOrder holds a tag in order.
func holdOrder(t *testing.T, x, want api.Tag) {
	t.Helper()
	asked, nothing := said(x), said(api.Image{})
	for range 2 {
		got := canon.Order(x)
		if !tag.Same(got, want) {
			t.Errorf("Order(%.300s): %.300s, want %.300s", asked, said(got), said(want))
		}
		if twice := canon.Order(got); !tag.Same(twice, got) {
			t.Errorf("Order(%.300s) twice: %.300s, want %.300s", asked, said(twice), said(got))
		}
		holdOwn(t, api.Image{}, x, got, nothing, asked)
	}
}

// hold holds what a tag is called now, and whether it is called so.
func hold(t *testing.T, im api.Image, x, want api.Tag) {
	t.Helper()
	before, asked := said(im), said(x)
	for range 2 {
		got := canon.Canonical(im, x)
		if !tag.Same(got, want) {
			t.Errorf("Canonical(%.300s, %.300s): %.300s, want %.300s", before, asked, said(got), said(want))
		}
		if is := canon.Is(im, x); is != tag.Same(x, want) {
			t.Errorf("Is(%.300s, %.300s): %v", before, asked, is)
		}
		holdOwn(t, im, x, got, before, asked)
	}
}
