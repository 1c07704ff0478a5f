package check_test

import (
	"fmt"
	"slices"
	"strings"
	"testing"

	"isogloss/api"
	"isogloss/check"
	"isogloss/fault"
	"isogloss/image"
)

// words are those of a text, with `-` for an empty one, and empty ones behind them, up to so many.
func words(s string, count int) []string {
	all := make([]string, count)
	for at, word := range strings.Fields(s) {
		if word != "-" {
			all[at] = word
		}
	}
	return all
}

// kindWords are the kinds of aliases, by name.
var kindWords = map[string]int{"grand": 1, "pair": 2, "lang": 3, "script": 4, "region": 5, "variant": 6, "type": 7}

// alias is one of the words of a text: its kind, A, B, L, S and R.
func alias(s string) api.Alias {
	w := words(s, 6)
	return api.Alias{Kind: kindWords[w[0]], A: w[1], B: w[2], L: w[3], S: w[4], R: w[5]}
}

// aliases are those of texts.
func aliases(all ...string) []api.Alias { return each(all, alias) }

// likely is a likely row of the words of a text.
func likely(s string) api.Likely {
	w := words(s, 6)
	return api.Likely{L: w[0], S: w[1], R: w[2], ToL: w[3], ToS: w[4], ToR: w[5]}
}

// rule is a rule of the words of a text, as many on each side as it has levels.
func rule(s string) api.Rule {
	w := strings.Fields(s)
	x := api.Rule{Level: len(w) / 2, Cost: 4}
	copy(x.D[:], w[:x.Level])
	copy(x.S[:], w[x.Level:])
	return x
}

// member is the member of the words of a text.
func member(s string) api.Member {
	w := words(s, 2)
	return api.Member{Set: w[0], Region: w[1]}
}

// each is what is made of each text.
func each[T any](all []string, made func(string) T) []T {
	var row []T
	for _, s := range all {
		row = append(row, made(s))
	}
	return row
}

// open are the rules that an image can't do without.
func open() []api.Rule { return each([]string{"* *", "* * * *", "* * * * * *"}, rule) }

// usable is an image that may be used, with things of all kinds.
func usable() api.Image {
	return api.Image{
		Aliases: aliases(
			"type ca islamicc civil", "grand 18 - sfb", "grand 24 - nan hant tw", "pair sgn br bzs", "pair sgn us ase", "lang iw - he", "lang sh - sr latn", "lang cnr - sr - me", "lang azb - az arab ir",
			"script qaai - - zinh", "region su - - - ru", "region 840 - - - us", "variant heploc - alalc97", "variant polytoni", "type co diction dict", "type kb yes true",
		),
		Likely:  each([]string{"und - - en latn us", "en - - en latn us", "en shaw - en shaw gb", "zh - tw zh hant tw", "zh - - zh hans cn", "sr latn rs sr latn rs", "sr - - sr cyrl rs"}, likely),
		Rules:   append(each([]string{"no nb", "zh hans zh hant", "en * $enus en * $enus", "en * !enus en * !enus", "es * $amer * * !enus"}, rule), open()...),
		Members: each([]string{"enus us", "enus pr", "amer 419"}, member), Threshold: 40, Demote: 5,
	}
}

// with is an image with other aliases behind its own.
func with(im api.Image, more ...string) api.Image {
	im.Aliases = slices.Concat(im.Aliases, aliases(more...))
	return im
}

// copied is an image with rows of its own.
func copied(im api.Image) api.Image {
	im.Aliases, im.Likely, im.Rules, im.Members = slices.Clone(im.Aliases), slices.Clone(im.Likely), slices.Clone(im.Rules), slices.Clone(im.Members)
	return im
}

// same tells whether two images have the same, in the same order.
func same(a, b api.Image) bool {
	return slices.Equal(a.Aliases, b.Aliases) && slices.Equal(a.Likely, b.Likely) && slices.Equal(a.Rules, b.Rules) && slices.Equal(a.Members, b.Members) && a.Threshold == b.Threshold && a.Demote == b.Demote
}

// holdFault holds what an error tells.
func holdFault(t *testing.T, e error, kind api.Errno, place int, what string) {
	t.Helper()
	if e == nil {
		t.Fatalf("no error, want %d at %d: %s", int(kind), place, what)
	}
	if fault.Kind(e) != kind || fault.Place(e) != place || fault.Total(e) != place || fmt.Sprint(fault.Whats(e)) != "["+what+"]" {
		t.Fatalf("%v, want %d at %d: %s", e, int(kind), place, what)
	}
}

// holdRight holds that an image may be used, and is not changed by that.
func holdRight(t *testing.T, im api.Image) {
	t.Helper()
	before := copied(im)
	for range 2 {
		if e := check.Check(im); e != nil {
			t.Fatalf("Check(%.1000q): %v", fmt.Sprint(im), e)
		}
	}
	if !same(im, before) {
		t.Fatalf("Check changed its image to %.1000q", fmt.Sprint(im))
	}
	s, e := image.Encode(im)
	if e != nil {
		t.Fatal(e)
	}
	for range 2 {
		got, e := check.Load(s)
		if e != nil {
			t.Fatalf("Load(%.1000q): %v", s, e)
		}
		want, _ := image.Decode(s)
		if back, _ := image.Encode(got); !same(got, want) || back != s {
			t.Fatalf("Load(%.1000q): %.1000q", s, fmt.Sprint(got))
		}
	}
}

// holdWrong holds why an image may not be used, and that it is not changed by that.
func holdWrong(t *testing.T, im api.Image, kind api.Errno, place int, what string) {
	t.Helper()
	before := copied(im)
	for range 2 {
		holdFault(t, check.Check(im), kind, place, what)
	}
	if !same(im, before) {
		t.Fatalf("Check changed its image to %.1000q", fmt.Sprint(im))
	}
}

// finalAgain tells whether something is final, once more.
func finalAgain(im api.Image, kind int, a, b string) bool {
	for _, x := range im.Aliases {
		switch kind {
		case 3:
			if (x.Kind == 3 || x.Kind == 2) && x.A == a {
				return false
			}
		case 4, 5, 6:
			if x.Kind == kind && x.A == a {
				return false
			}
		case 7:
			if x.Kind == 7 && x.A == a && x.B == b {
				return false
			}
		}
	}
	return true
}

// endsAgain tells whether the target of a right alias is all final, once more.
func endsAgain(im api.Image, x api.Alias) bool {
	switch x.Kind {
	case 1, 2, 3:
		return finalAgain(im, 3, x.L, "") && (x.S == "" || finalAgain(im, 4, x.S, "")) && (x.R == "" || finalAgain(im, 5, x.R, ""))
	case 4:
		return finalAgain(im, 4, x.S, "")
	case 5:
		return finalAgain(im, 5, x.R, "")
	case 6:
		return x.L == "" || finalAgain(im, 6, x.L, "")
	}
	return finalAgain(im, 7, x.A, x.L)
}

// knownAgain tells whether a text of a rule names no set, or one that has a member, once more.
func knownAgain(im api.Image, s string) bool {
	if !strings.HasPrefix(s, "$") && !strings.HasPrefix(s, "!") {
		return true
	}
	return slices.ContainsFunc(im.Members, func(m api.Member) bool { return m.Set == s[1:] })
}

// wrongAgain is what is wrong with an image that has bytes, once more; OK, if nothing is.
func wrongAgain(im api.Image) (kind api.Errno, place int, what string) {
	for i, x := range im.Aliases {
		if !endsAgain(im, x) {
			return api.ErrLoop, i, "alias"
		}
	}
	for i, x := range im.Likely {
		if !slices.ContainsFunc(im.Likely, func(y api.Likely) bool { return y.L == x.ToL && y.S == "" && y.R == "" }) {
			return api.ErrNone, i, "likely"
		}
	}
	for i, x := range im.Rules {
		for at := range 3 {
			if !knownAgain(im, x.D[at]) || !knownAgain(im, x.S[at]) {
				return api.ErrNone, i, "rule"
			}
		}
	}
	for level := 1; level <= 3; level++ {
		if !slices.ContainsFunc(im.Rules, func(x api.Rule) bool {
			return x.Level == level && strings.Join(x.D[:level], "")+strings.Join(x.S[:level], "") == strings.Repeat("*", 2*level)
		}) {
			return api.ErrNone, len(im.Rules), "rule"
		}
	}
	return api.OK, 0, ""
}

// hold holds an image that has bytes against what wrongAgain tells, and tells whether it may be used.
func hold(t *testing.T, im api.Image) bool {
	t.Helper()
	kind, place, what := wrongAgain(im)
	if kind == api.OK {
		holdRight(t, im)
		return true
	}
	holdWrong(t, im, kind, place, what)
	return false
}
