package data_test

import (
	"strings"
	"testing"

	"isogloss/alias"
	"isogloss/api"
	"isogloss/check"
	"isogloss/data"
	"isogloss/image"
)

// P15.1: the image has what the chapter has, in its order, and nothing else.
func TestImage(t *testing.T) {
	for range 2 {
		holdImage(t, data.Image(), imageAgain())
	}
	im := data.Image()
	if a, l, r, m := len(im.Aliases), len(im.Likely), len(im.Rules), len(im.Members); a != 54 || l != 32 || r != 15 || m != 7 {
		t.Errorf("%d aliases, %d likely rows, %d rules, %d members, want 54, 32, 15, 7", a, l, r, m)
	}
	if im.Threshold != 40 || im.Demote != 5 {
		t.Errorf("Threshold %d, Demote %d, want 40, 5", im.Threshold, im.Demote)
	}
}

// P15.1: how many aliases of each kind, rules of each level, and one-way ones, and members of each set there are.
func TestCounts(t *testing.T) {
	im := data.Image()
	kinds, levels, sets, oneWay := map[int]int{}, map[int]int{}, map[string]int{}, 0
	for _, x := range im.Aliases {
		kinds[x.Kind]++
	}
	for _, x := range im.Rules {
		levels[x.Level]++
		if x.OneWay {
			oneWay++
		}
	}
	for _, x := range im.Members {
		sets[x.Set]++
	}
	for kind, want := range map[int]int{api.AliasGrand: 19, api.AliasPair: 4, api.AliasLang: 12, api.AliasScript: 1, api.AliasRegion: 12, api.AliasVariant: 2, api.AliasType: 4} {
		if kinds[kind] != want {
			t.Errorf("%d aliases of kind %d, want %d", kinds[kind], kind, want)
		}
	}
	if levels[1] != 6 || levels[2] != 4 || levels[3] != 5 || oneWay != 3 {
		t.Errorf("rules of levels %v, %d of them one-way, want 6, 4 and 5, 3", levels, oneWay)
	}
	if sets["amer"] != 4 || sets["enus"] != 3 || len(sets) != 2 {
		t.Errorf("members of sets %v, want 4 of amer, 3 of enus", sets)
	}
}

// P15.1: the first and the last things, and those that a wrong reading would miss, as literals.
func TestThings(t *testing.T) {
	im := data.Image()
	for at, want := range map[int]api.Alias{
		0:  {Kind: api.AliasGrand, A: "18", L: "sfb"},
		18: {Kind: api.AliasGrand, A: "04", L: "bnn"},
		20: {Kind: api.AliasPair, A: "sgn", B: "us", L: "ase"},
		29: {Kind: api.AliasLang, A: "sh", L: "sr", S: "latn"},
		31: {Kind: api.AliasLang, A: "cnr", L: "sr", R: "me"},
		35: {Kind: api.AliasScript, A: "qaai", S: "zinh"},
		36: {Kind: api.AliasRegion, A: "dd", R: "de"},
		40: {Kind: api.AliasRegion, A: "840", R: "us"},
		48: {Kind: api.AliasVariant, A: "heploc", L: "alalc97"},
		53: {Kind: api.AliasType, A: "kb", B: "yes", L: "true"},
	} {
		if got := im.Aliases[at]; got != want {
			t.Errorf("alias %d: %+v, want %+v", at, got, want)
		}
	}
	for at, want := range map[int]api.Likely{
		0:  {L: "en", ToL: "en", ToS: "latn", ToR: "us"},
		1:  {L: "en", S: "shaw", ToL: "en", ToS: "shaw", ToR: "gb"},
		3:  {L: "und", R: "419", ToL: "es", ToS: "latn", ToR: "419"},
		31: {L: "ro", ToL: "ro", ToS: "latn", ToR: "ro"},
	} {
		if got := im.Likely[at]; got != want {
			t.Errorf("likely row %d: %+v, want %+v", at, got, want)
		}
	}
	for at, want := range map[int]api.Rule{
		0:  {Level: 1, Cost: 1, D: [3]string{"nb", "", ""}, S: [3]string{"no", "", ""}},
		4:  {Level: 1, Cost: 30, OneWay: true, D: [3]string{"id", "", ""}, S: [3]string{"ms", "", ""}},
		6:  {Level: 2, Cost: 15, OneWay: true, D: [3]string{"zh", "hans", ""}, S: [3]string{"zh", "hant", ""}},
		13: {Level: 3, Cost: 5, D: [3]string{"es", "*", "!amer"}, S: [3]string{"es", "*", "$amer"}},
		14: {Level: 3, Cost: 4, D: [3]string{"*", "*", "*"}, S: [3]string{"*", "*", "*"}},
	} {
		if got := im.Rules[at]; got != want {
			t.Errorf("rule %d: %+v, want %+v", at, got, want)
		}
	}
	if first, last := im.Members[0], im.Members[6]; first != (api.Member{Set: "amer", Region: "419"}) || last != (api.Member{Set: "enus", Region: "gu"}) {
		t.Errorf("members %+v to %+v, want 419 of amer to gu of enus", first, last)
	}
}

// P15.1: the image's bytes are those that image.Encode tells of it, and of the chapter's image.
func TestBytes(t *testing.T) {
	for _, im := range []api.Image{data.Image(), imageAgain()} {
		want, e := image.Encode(im)
		if e != nil {
			t.Fatal(e)
		}
		for range 2 {
			if got := data.Bytes(); got != want {
				t.Fatalf("Bytes: %d bytes (%.40q), want %d (%.40q)", len(got), got, len(want), want)
			}
		}
	}
	s := data.Bytes()
	if len(s) != 4641 || !strings.HasPrefix(s, "isog\x00\x36\x00\x20\x00\x0f\x00\x07\x28\x05\x01"+"00\x00") {
		t.Errorf("Bytes: %d bytes, %.40q", len(s), s)
	}
	if !strings.HasSuffix(s, "enus\x00\x00\x00\x00us\x00\x00\x00\x00\x00\x00") {
		t.Errorf("Bytes ends with %q", s[len(s)-16:])
	}
}

// ordered is an image with its rows as its bytes have them.
func ordered(im api.Image) api.Image {
	im.Aliases = sorted(im.Aliases, alias.Compare)
	im.Likely = sorted(im.Likely, func(a, b api.Likely) int {
		return strings.Compare(key(a.L, a.S, a.R), key(b.L, b.S, b.R))
	})
	im.Members = sorted(im.Members, func(a, b api.Member) int {
		return strings.Compare(key(a.Set, a.Region), key(b.Set, b.Region))
	})
	return im
}

// key is a text that stands as texts do, the first one first.
func key(texts ...string) string { return strings.Join(texts, "\x00") }

// sorted is a row that rises, built one by one.
func sorted[T any](row []T, compare func(a, b T) int) []T {
	var out []T
	for _, x := range row {
		at := 0
		for at < len(out) && compare(out[at], x) < 0 {
			at++
		}
		out = append(out[:at:at], append([]T{x}, out[at:]...)...)
	}
	return out
}

// P15.1: the image's bytes are decoded, and loaded, to an image with the same things, in order.
func TestDecoded(t *testing.T) {
	want := ordered(imageAgain())
	im, e := image.Decode(data.Bytes())
	if e != nil {
		t.Fatal(e)
	}
	holdImage(t, im, want)
	im, e = check.Load(data.Bytes())
	if e != nil {
		t.Fatal(e)
	}
	holdImage(t, im, want)
	if again, e := image.Encode(im); e != nil || again != data.Bytes() {
		t.Errorf("what is loaded has other bytes: %d, %v", len(again), e)
	}
}

// P15.2: the image may be used, in the chapter's order, and as its bytes have it.
func TestUsable(t *testing.T) {
	for range 2 {
		if e := check.Check(data.Image()); e != nil {
			t.Errorf("Check: %v", e)
		}
	}
	if _, e := check.Load(data.Bytes()); e != nil {
		t.Errorf("Load: %v", e)
	}
	if e := check.Check(ordered(data.Image())); e != nil {
		t.Errorf("Check, in order: %v", e)
	}
}

// P15.2: no target of an alias is called otherwise, and each that is called otherwise is not final.
func TestFinal(t *testing.T) {
	im := data.Image()
	for at, x := range im.Aliases {
		final := check.Final(im, api.AliasLang, x.L, "")
		switch x.Kind {
		case api.AliasScript:
			final = check.Final(im, x.Kind, x.S, "")
		case api.AliasRegion:
			final = check.Final(im, x.Kind, x.R, "")
		case api.AliasVariant:
			final = check.Final(im, x.Kind, x.L, "")
		case api.AliasType:
			final = check.Final(im, x.Kind, x.A, x.L)
		}
		if !final {
			t.Errorf("alias %d leads to what is called otherwise: %+v", at, x)
		}
		if kind := max(x.Kind, api.AliasLang); x.Kind != api.AliasGrand && check.Final(im, kind, x.A, x.B) {
			t.Errorf("alias %d is not asked: %+v", at, x)
		}
	}
}
