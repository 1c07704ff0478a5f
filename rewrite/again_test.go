package rewrite_test

import (
	"cmp"
	"fmt"
	"slices"
	"strings"
	"testing"

	"isogloss/api"
	"isogloss/parse"
	"isogloss/rewrite"
	"isogloss/tag"
)

// kindWords are the kinds of aliases, by name.
var kindWords = map[string]int{"grand": 1, "pair": 2, "lang": 3, "script": 4, "region": 5, "variant": 6, "type": 7}

// alias is one of the words of a text: its kind, A, B, L, S and R, with `-` for an empty one.
func alias(s string) api.Alias {
	var w [6]string
	for at, word := range strings.Fields(s) {
		if word != "-" {
			w[at] = word
		}
	}
	if kindWords[w[0]] == 0 {
		panic("no kind: " + s)
	}
	return api.Alias{Kind: kindWords[w[0]], A: w[1], B: w[2], L: w[3], S: w[4], R: w[5]}
}

// with is an image with just these aliases.
func with(all ...string) api.Image {
	var im api.Image
	for _, s := range all {
		im.Aliases = append(im.Aliases, alias(s))
	}
	return im
}

// of is the tag of a text.
func of(s string) api.Tag {
	x, e := parse.Parse(s)
	if e != nil {
		panic(s + ": " + e.Error())
	}
	return x
}

// said is a tag, or an image, as a text, in which nothing is left out.
func said(x any) string { return fmt.Sprintf("%+q", x) }

// names are the chapter's grandfathered tags.
const names = "art-lojban cel-gaulish en-gb-oed i-ami i-bnn i-default i-enochian i-hak i-klingon i-lux i-mingo i-navajo i-pwn i-tao i-tay i-tsu no-bok no-nyn sgn-be-fr sgn-be-nl sgn-ch-de zh-guoyu zh-hakka zh-min zh-min-nan zh-xiang"

// lower is a text with small letters instead of great ones, of ASCII alone.
func lower(s string) string {
	b := []byte(s)
	for i, c := range b {
		if c >= 'A' && c <= 'Z' {
			b[i] = c + 32
		}
	}
	return string(b)
}

// doing is something that can be done with a tag: which of several that can be is told by kind, rank and number.
type doing struct {
	kind, rank, number int
	next               api.Tag
}

// keysAgain are the keys of an extension's subtags, each with where it begins and where the next one does.
func keysAgain(subs []string) [][2]int {
	var keys [][2]int
	for i, s := range subs {
		if len(s) == 2 {
			if n := len(keys); n > 0 {
				keys[n-1][1] = i
			}
			keys = append(keys, [2]int{i, len(subs)})
		}
	}
	return keys
}

// byAgain is what can be done by an alias, once more.
func byAgain(a api.Alias, number int, t api.Tag) []doing {
	t = tag.Clone(t)
	switch a.Kind {
	case 1:
		at := slices.Index(strings.Fields(names), lower(t.Grand))
		if at < 0 || fmt.Sprintf("%02d", at) != a.A {
			return nil
		}
		t = api.Tag{Lang: a.L, Script: a.S, Region: a.R}
	case 2:
		if t.Lang != a.A || t.Region != a.B {
			return nil
		}
		t.Lang, t.Region = a.L, ""
	case 3:
		if t.Lang != a.A {
			return nil
		}
		t.Lang = a.L
		if t.Script == "" {
			t.Script = a.S
		}
		if t.Region == "" {
			t.Region = a.R
		}
	case 4:
		if t.Script != a.A {
			return nil
		}
		t.Script = a.S
	case 5:
		if t.Region != a.A {
			return nil
		}
		t.Region = a.R
	case 6:
		at := slices.Index(t.Variants, a.A)
		if at < 0 {
			return nil
		}
		var row []string
		others := append(slices.Clone(t.Variants[:at]), t.Variants[at+1:]...)
		for i, v := range t.Variants {
			if i != at {
				row = append(row, v)
			} else if a.L != "" && !slices.Contains(others, a.L) {
				row = append(row, a.L)
			}
		}
		t.Variants = row
		return []doing{{6, at, number, t}}
	case 7:
		for i, e := range t.Exts {
			if e.Key != "u" {
				continue
			}
			subs := strings.Split(lower(strings.Join(e.Subs, "\n")), "\n")
			for rank, key := range keysAgain(subs) {
				if subs[key[0]] == a.A && key[1] == key[0]+2 && subs[key[0]+1] == a.B {
					subs[key[0]+1] = a.L
					t.Exts[i].Subs = subs
					return []doing{{7, rank, number, t}}
				}
			}
			return nil
		}
		return nil
	default:
		return nil
	}
	return []doing{{a.Kind, 0, number, t}}
}

// textAgain is the text of a tag without a Grand, once more.
func textAgain(t api.Tag) string {
	var all []string
	put := func(texts ...string) {
		for _, s := range texts {
			if s != "" {
				all = append(all, s)
			}
		}
	}
	put(t.Lang)
	all = append(all, t.Extlang...)
	put(t.Script, t.Region)
	all = append(all, t.Variants...)
	for _, e := range t.Exts {
		all = append(append(all, e.Key), e.Subs...)
	}
	if len(t.Private) > 0 {
		all = append(append(all, "x"), t.Private...)
	}
	return strings.Join(all, "-")
}

// stepAgain is the first step, once more: of all that can be done the one that the chapter names first.
func stepAgain(im api.Image, t api.Tag) (api.Tag, int, bool) {
	var all []doing
	if text := lower(textAgain(t)); t.Grand == "" && text != "" && slices.Contains(strings.Fields(names), text) {
		all = append(all, doing{-2, 0, -2, api.Tag{Grand: text}})
	}
	if len(t.Extlang) > 0 {
		next := tag.Clone(t)
		next.Lang, next.Extlang = t.Extlang[0], nil
		all = append(all, doing{-1, 0, -1, next})
	}
	for number, a := range im.Aliases {
		all = append(all, byAgain(a, number, t)...)
	}
	if len(all) == 0 {
		return t, 0, false
	}
	least := slices.MinFunc(all, func(a, b doing) int {
		return cmp.Or(cmp.Compare(a.kind, b.kind), cmp.Compare(a.rank, b.rank), cmp.Compare(a.number, b.number))
	})
	return least.next, least.number, true
}

// mostAgain is how many steps are told of a tag at most.
func mostAgain(t api.Tag) int {
	switch {
	case t.Grand != "":
		return 11 + strings.Count(t.Grand, "-")
	case textAgain(t) == "":
		return 10
	}
	return 11 + strings.Count(textAgain(t), "-")
}

// spoil writes into all rows of a tag.
func spoil(x api.Tag) {
	for _, row := range [][]string{x.Extlang, x.Variants, x.Private} {
		row = row[:cap(row)]
		for i := range row {
			row[i] = "spoilt"
		}
	}
	for i := range x.Exts {
		subs := x.Exts[i].Subs
		for j := range subs[:cap(subs)] {
			subs[:cap(subs)][j] = "spoilt"
		}
		x.Exts[i] = api.Ext{Key: "spoilt"}
	}
}

// holdStep holds what Step and Done tell, that nothing of what they are asked is changed, and that what is told is the caller's.
func holdStep(t *testing.T, im api.Image, x, want api.Tag, number int, found bool) {
	t.Helper()
	before, asked := said(im), said(x)
	for range 2 {
		got, n, ok := rewrite.Step(im, x)
		if !tag.Same(got, want) || n != number || ok != found {
			t.Errorf("Step(%.300s, %.300s): %.300s, %d, %v, want %.300s, %d, %v", before, asked, said(got), n, ok, said(want), number, found)
		}
		if done := rewrite.Done(im, x); done == found {
			t.Errorf("Done(%.300s, %.300s): %v", before, asked, done)
		}
		spoil(got)
		if said(im) != before || said(x) != asked {
			t.Fatalf("(%.300s, %.300s) is changed, or shares with what is told, to (%.300s, %.300s)", before, asked, said(im), said(x))
		}
	}
}

// holdDone holds that there is no step.
func holdDone(t *testing.T, im api.Image, x api.Tag) {
	t.Helper()
	holdStep(t, im, x, x, 0, false)
}

// told is a step as it is told.
type told struct {
	number int
	next   api.Tag
}

// traceAgain are the steps that are told of a tag, once more.
func traceAgain(im api.Image, t api.Tag) []told {
	var all []told
	for now, most := t, mostAgain(t); len(all) < most; {
		next, number, found := stepAgain(im, now)
		if !found {
			break
		}
		all = append(all, told{number, next})
		now = next
	}
	return all
}

// holdTrace holds what Trace tells, twice over, what is told being written into, and left off after each of them.
func holdTrace(t *testing.T, im api.Image, x api.Tag, want []told) {
	t.Helper()
	before, asked := said(im), said(x)
	steps := rewrite.Trace(im, x)
	for stop := len(want) + 1; stop >= 0; stop-- {
		at := 0
		for number, next := range steps {
			if at >= len(want) || number != want[at].number || !tag.Same(next, want[at].next) {
				t.Fatalf("Trace(%.300s, %.300s), %d: %d, %.300s, want %.300s", before, asked, at, number, said(next), said(want))
			}
			spoil(next)
			if at++; at >= stop {
				break
			}
		}
		if at != min(max(stop, 1), len(want)) {
			t.Fatalf("Trace(%.300s, %.300s): %d steps up to %d, want %.300s", before, asked, at, stop, said(want))
		}
		if said(im) != before || said(x) != asked {
			t.Fatalf("(%.300s, %.300s) is changed, or shares with what is told, to (%.300s, %.300s)", before, asked, said(im), said(x))
		}
	}
}

// hold holds all that is told of a tag against what is told once more.
func hold(t *testing.T, im api.Image, x api.Tag) {
	t.Helper()
	next, number, found := stepAgain(im, x)
	holdStep(t, im, x, next, number, found)
	holdTrace(t, im, x, traceAgain(im, x))
}
