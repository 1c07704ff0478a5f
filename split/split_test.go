package split_test

import (
	"errors"
	"fmt"
	"slices"
	"strings"
	"testing"

	"isogloss/api"
	"isogloss/fault"
	"isogloss/split"
)

// piece is a piece of a text, and the place where it begins.
type piece struct {
	at   int
	text string
}

// told tells what a text's walk tells, up to so many pieces, and all of them if most is below 0.
func told(s string, most int) []piece {
	var all []piece
	for at, text := range split.Each(s) {
		if len(all) == most {
			break
		}
		all = append(all, piece{at, text})
	}
	return all
}

// texts tells every text of up to so many of these bytes.
func texts(bytes string, most int) []string {
	all := []string{""}
	last := all
	for range most {
		var next []string
		for _, s := range last {
			for i := range len(bytes) {
				next = append(next, s+bytes[i:i+1])
			}
		}
		all, last = append(all, next...), next
	}
	return all
}

// samples are texts whose pieces are written out.
func samples() map[string][]piece {
	return map[string][]piece{
		"":               {{0, ""}},
		"a":              {{0, "a"}},
		"en":             {{0, "en"}},
		"en-us":          {{0, "en"}, {3, "us"}},
		"zh-Hant-CN":     {{0, "zh"}, {3, "Hant"}, {8, "CN"}},
		"i-klingon":      {{0, "i"}, {2, "klingon"}},
		"-":              {{0, ""}, {1, ""}},
		"--":             {{0, ""}, {1, ""}, {2, ""}},
		"-en":            {{0, ""}, {1, "en"}},
		"en-":            {{0, "en"}, {3, ""}},
		"-en-":           {{0, ""}, {1, "en"}, {4, ""}},
		"en--us":         {{0, "en"}, {3, ""}, {4, "us"}},
		"--en":           {{0, ""}, {1, ""}, {2, "en"}},
		"en--":           {{0, "en"}, {3, ""}, {4, ""}},
		"-ab--c":         {{0, ""}, {1, "ab"}, {4, ""}, {5, "c"}},
		"en---us":        {{0, "en"}, {3, ""}, {4, ""}, {5, "us"}},
		"en us-a_b":      {{0, "en us"}, {6, "a_b"}},
		"a\x00-\x80\xff": {{0, "a\x00"}, {3, "\x80\xff"}},
		"dé-ß":           {{0, "dé"}, {4, "ß"}},
		"a‐b–c":          {{0, "a‐b–c"}}, // other dashes stand between nothing
		"abcdefghi-1994": {{0, "abcdefghi"}, {10, "1994"}},
	}
}

// P4.1: all pieces, and their places.
func TestEach(t *testing.T) {
	for s, want := range samples() {
		if got := told(s, -1); !slices.Equal(got, want) {
			t.Errorf("Each(%q): %v, want %v", s, got, want)
		}
	}
}

// P4.1: each piece stands where it begins, with a `-` ahead of all but the first, and none within.
func TestPlaces(t *testing.T) {
	for _, s := range texts("ab-\xff", 6) {
		next := 0
		for at, text := range split.Each(s) {
			if at != next || !strings.HasPrefix(s[at:], text) || strings.Contains(text, "-") {
				t.Fatalf("Each(%q): %q at %d, want one at %d", s, text, at, next)
			}
			next = at + len(text) + 1
			if next <= len(s) && s[next-1] != '-' {
				t.Fatalf("Each(%q): %q at %d is cut off", s, text, at)
			}
		}
		if next != len(s)+1 {
			t.Fatalf("Each(%q) ends at %d", s, next-1)
		}
	}
}

// P4.1, R1: a walk may be left off at each piece.
func TestLeftOff(t *testing.T) {
	for s, want := range samples() {
		for most := range len(want) + 1 {
			if got := told(s, most); !slices.Equal(got, want[:most]) {
				t.Errorf("Each(%q), up to %d: %v", s, most, got)
			}
		}
		for most := 1; most <= len(want); most++ {
			calls := 0
			split.Each(s)(func(int, string) bool { calls++; return calls < most })
			if calls != most {
				t.Errorf("Each(%q), left off at %d: %d calls", s, most, calls)
			}
		}
	}
}

// P4.1, R1: a walk may be gone over again, also after it was left off, and within itself.
func TestAgain(t *testing.T) {
	for s, want := range samples() {
		walk := split.Each(s)
		for most := len(want); most >= 0; most-- {
			var got []piece
			for at, text := range walk {
				got = append(got, piece{at, text})
				if len(got) >= most {
					break
				}
			}
			if !slices.Equal(got, want[:max(most, 1)]) {
				t.Errorf("Each(%q) again, up to %d: %v", s, most, got)
			}
		}
		var outer []piece
		for at, text := range walk {
			var inner []piece
			for at, text := range walk {
				inner = append(inner, piece{at, text})
			}
			if !slices.Equal(inner, want) {
				t.Errorf("Each(%q) within itself: %v", s, inner)
			}
			outer = append(outer, piece{at, text})
		}
		if !slices.Equal(outer, want) {
			t.Errorf("Each(%q) around itself: %v", s, outer)
		}
	}
}

// P4.1: a text as a row of its pieces.
func TestSplit(t *testing.T) {
	for s, want := range samples() {
		var pieces []string
		for _, p := range want {
			pieces = append(pieces, p.text)
		}
		if got := split.Split(s); !slices.Equal(got, pieces) {
			t.Errorf("Split(%q): %q, want %q", s, got, pieces)
		}
	}
}

// P4.1: texts put together, whatever they are.
func TestJoin(t *testing.T) {
	for _, c := range []struct {
		l    []string
		want string
	}{
		{nil, ""},
		{[]string{}, ""},
		{[]string{""}, ""},
		{[]string{"en"}, "en"},
		{[]string{"-"}, "-"},
		{[]string{"en-us"}, "en-us"},
		{[]string{"", ""}, "-"},
		{[]string{"", "", ""}, "--"},
		{[]string{"en", "us"}, "en-us"},
		{[]string{"zh", "Hant", "CN"}, "zh-Hant-CN"},
		{[]string{"a", "", "b"}, "a--b"},
		{[]string{"", "en"}, "-en"},
		{[]string{"en", ""}, "en-"},
		{[]string{"en-us", "-", "x-a"}, "en-us---x-a"},
		{[]string{"a b", "\xff", "dé", "abcdefghi"}, "a b-\xff-dé-abcdefghi"},
	} {
		if got := split.Join(c.l...); got != c.want {
			t.Errorf("Join(%q): %q, want %q", c.l, got, c.want)
		}
	}
	if got := split.Join(); got != "" {
		t.Errorf("Join(): %q", got)
	}
	if got := split.Join("de", "1996"); got != "de-1996" {
		t.Errorf("Join(de, 1996): %q", got)
	}
}

// R3: what is handed in stays, and what is told is the caller's.
func TestOwn(t *testing.T) {
	l := []string{"en", "", "us"}
	split.Join(l...)
	if !slices.Equal(l, []string{"en", "", "us"}) {
		t.Errorf("Join changes what is handed in: %q", l)
	}
	s := "en-us"
	first := split.Split(s)
	first[0], first[1] = "x", "y"
	if second := split.Split(s); !slices.Equal(second, []string{"en", "us"}) || s != "en-us" {
		t.Errorf("Split again: %q of %q", second, s)
	}
}

// holdCheck holds what is told of a text against the place that it should tell, which is below 0 if nothing is wrong.
func holdCheck(t *testing.T, s string, place int) {
	t.Helper()
	e := split.Check(s)
	if place < 0 {
		if e != nil {
			t.Errorf("Check(%.50q): %v, want nil", s, e)
		}
		return
	}
	var f *fault.Fault
	if !errors.As(e, &f) {
		t.Errorf("Check(%.50q): %v, want a fault at %d", s, e, place)
		return
	}
	if *f != (fault.Fault{At: place, What: "subtag", Inner: api.ErrSyntax}) {
		t.Errorf("Check(%.50q): %v, want one of ErrSyntax at %d", s, e, place)
	}
	if want := fmt.Sprintf("subtag at %d: isogloss: error 10", place); e.Error() != want {
		t.Errorf("Check(%.50q): %s, want %s", s, e, want)
	}
}

// P4.2: texts whose pieces are all subtags.
func TestChecked(t *testing.T) {
	for _, s := range []string{
		"a", "Z", "0", "9", "en", "EN", "419", "a1", "1a", "abcdefgh", "ABCDEFGH", "12345678", "a1B2c3D4",
		"en-us", "zh-Hant-CN-x-private1", "i-klingon", "x-a-b-c", "a-b", "1-2-3", "abcdefgh-12345678-ABCDEFGH", "u-co-phonebk",
		"en" + strings.Repeat("-x", 1000), "en" + strings.Repeat("-abcdefgh", 1000),
	} {
		holdCheck(t, s, -1)
	}
}

// P4.2: the first piece that is no subtag, and where it begins.
func TestNotChecked(t *testing.T) {
	for s, place := range map[string]int{
		"": 0, "-": 0, "--": 0, "-en": 0, "en-": 3, "-en-": 0, "en--us": 3, "en--": 3, "en-us-": 6, "en-us--": 6, "a-": 2,
		"abcdefghi": 0, "abcdefghi-en": 0, "en-abcdefghi": 3, "en-abcdefgh-123456789": 12, "abcdefgh-abcdefghi": 9, "123456789": 0,
		"en_us": 0, "en-u_s": 3, "a_b": 0, "en us": 0, "en- us": 3, "en-us ": 3, " en": 0, "en\n": 0, "en-\x00": 3, "\x00": 0, "*": 0, "en-*": 3, "de-*-de": 3,
		"é": 0, "en-é": 3, "en-dé-us": 3, "\x80": 0, "en-\xff": 3, "en-a\xe1": 3, "en-\xc1": 3, "\u212aa": 0, "en-ſ": 3, "en-٣": 3, "en-ı": 3, "a‐b": 0,
		"en-abcdefg\xff": 3, "en-abcdefgh\xff": 3, "en-us-@-[": 6, "en-a/-a:": 3, "en-`{": 3,
		"en-us-abcdefghi-": 6, "en-us--abcdefghi": 6, "en-us-a_b--": 6, // the first one of several
	} {
		holdCheck(t, s, place)
	}
}

// P4.2: pieces of all sizes, at each place of a row.
func TestCheckedSizes(t *testing.T) {
	for size := range 20 {
		s := strings.Repeat("a", size)
		for ahead := range 5 {
			for behind := range 3 {
				place := -1
				if size == 0 || size > 8 {
					place = 4 * ahead
				}
				holdCheck(t, strings.Repeat("abc-", ahead)+s+strings.Repeat("-de", behind), place)
			}
		}
	}
}

// P4.2: each byte, at each place of a piece.
func TestCheckedBytes(t *testing.T) {
	for b := range 256 {
		alnum := '0' <= b && b <= '9' || 'A' <= b && b <= 'Z' || 'a' <= b && b <= 'z'
		for size := 1; size <= 8; size++ {
			for at := range size {
				s := []byte("aB3dE6g8"[:size])
				s[at] = byte(b)
				place := 3
				switch {
				case alnum:
					place = -1
				case b == '-' && at > 0 && at < size-1: // both halves are subtags
					place = -1
				case b == '-' && at > 0: // what is behind it is empty
					place = 3 + size
				}
				holdCheck(t, "en-"+string(s), place)
			}
		}
	}
}

// P4.2: a text without its last pieces.
func TestTrim(t *testing.T) {
	for s, want := range map[string]string{
		"": "", "a": "", "en": "", "abcdefghi": "", "é": "", "a_b": "", // one piece alone
		"en-us": "en", "zh-hant-cn": "zh-hant", "zh-Hant-CN": "zh-Hant", "a-bb": "a", "a-b": "a", "i-klingon": "i", "en-x": "en",
		"zh-Hant-CN-x-private1": "zh-Hant-CN", "zh-Hant-CN-x-private1-private2": "zh-Hant-CN-x-private1",
		"a-b-c-dd": "a", "a-b-c-d": "a", "en-x-y-zz": "en", "en-x-y-z": "en", "en-x-y-z-a": "en", "en-aa-x-y-z-bb": "en-aa", "en-aa-b-cc": "en-aa",
		"x-a-b": "x", "1-2": "1", "en-1-aa": "en", "en-a-us-b-cc": "en-a-us", "en-us-a": "en-us", "a-bb-c-d": "a-bb",
		"en-": "en", "en--": "en-", "en---": "en--", "en-x-": "en", "en-x-y-": "en", "a-": "a",
		"-": "", "--": "-", "---": "--", "-en": "", "-a": "", "--a": "-", "-a-": "", "-a-bb": "", "-a-b-cc": "", "--a-bb": "-", "-en-us": "-en",
		"en--us": "en-", "a--b": "a-", "en-x--us": "en-x-", "en--x-us": "en-", "en---x-us": "en--",
		"en-é-us": "en-é", "en-\xff-us": "en", "en-_-us": "en", "en-\x00": "en", "en-a_b-c": "en-a_b", "en-*-us": "en", "abcdefghi-abcdefghi": "abcdefghi",
	} {
		if got := split.Trim(s); got != want {
			t.Errorf("Trim(%q): %q, want %v", s, got, want)
		}
	}
}

// trimmed leaves pieces off a row, as the promise's words say.
func trimmed(s string) string {
	pieces := strings.Split(s, "-")
	pieces = pieces[:len(pieces)-1]
	for len(pieces) > 1 && len(pieces[len(pieces)-1]) == 1 {
		pieces = pieces[:len(pieces)-1]
	}
	return strings.Join(pieces, "-")
}

// P4.2: all short texts without their last pieces.
func TestTrimAll(t *testing.T) {
	for _, s := range texts("a-\xff", 9) {
		if got, want := split.Trim(s), trimmed(s); got != want {
			t.Fatalf("Trim(%q): %q, want %v", s, got, want)
		}
	}
}

// P4.3: what is split is joined to the same, and each piece is split to itself.
func TestSplitAndJoined(t *testing.T) {
	for _, s := range append(texts("a-B\xff", 6), texts("x-", 12)...) {
		pieces := split.Split(s)
		if got := split.Join(pieces...); got != s {
			t.Fatalf("Split(%q), joined: %q", s, got)
		}
		if len(pieces) != strings.Count(s, "-")+1 {
			t.Fatalf("Split(%q): %q", s, pieces)
		}
	}
	for s := range samples() {
		if got := split.Join(split.Split(s)...); got != s {
			t.Errorf("Split(%q), joined: %q", s, got)
		}
	}
}

// P1, R5: long texts are answered in full.
func TestLong(t *testing.T) {
	const size = 1 << 20
	long := strings.Repeat("a", size)
	marks := strings.Repeat("-", size)
	singles := "en" + strings.Repeat("-x", size)
	for _, c := range []struct {
		s      string
		pieces int
		place  int
		trim   string
	}{
		{long, 1, 0, ""},
		{"en-" + long, 2, 3, "en"},
		{long + "-en", 2, 0, long},
		{marks, size + 1, 0, marks[1:]},
		{singles, size + 1, -1, "en"},
		{singles + "-", size + 2, len(singles) + 1, "en"},
	} {
		pieces := split.Split(c.s)
		if len(pieces) != c.pieces || split.Join(pieces...) != c.s {
			t.Errorf("Split(%.9q): %d pieces, want %d", c.s, len(pieces), c.pieces)
		}
		holdCheck(t, c.s, c.place)
		if got := split.Trim(c.s); got != c.trim {
			t.Errorf("Trim(%.9q): %d bytes, want %d", c.s, len(got), len(c.trim))
		}
	}
}

// P1: texts that are trimmed again and again end soon.
func TestTrimmedAway(t *testing.T) {
	const pieces = 1<<18 + 1
	s, steps := strings.Repeat("ab-", pieces-1), 0
	for ; s != "" && steps <= pieces; steps++ {
		s = split.Trim(s)
	}
	if steps != pieces {
		t.Errorf("trimmed away in %d steps, want %d", steps, pieces)
	}
}

// The chapter's examples.
func TestExamples(t *testing.T) {
	if got := split.Trim("zh-Hant-CN-x-private1"); got != "zh-Hant-CN" {
		t.Errorf("Trim: %s", got)
	}
	if e := split.Check("en--us"); fault.Kind(e) != api.ErrSyntax || fault.Place(e) != 3 {
		t.Errorf("Check: %v", e)
	}
}
