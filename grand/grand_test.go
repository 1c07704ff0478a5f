package grand_test

import (
	"fmt"
	"math"
	"slices"
	"strings"
	"testing"

	"isogloss/grand"
)

// listed tells the grandfathered tags as the chapter lists them: those with a star are regular.
func listed() (names []string, regular []bool) {
	list := "art-lojban* cel-gaulish* en-gb-oed i-ami i-bnn i-default i-enochian i-hak i-klingon i-lux i-mingo i-navajo i-pwn " +
		"i-tao i-tay i-tsu no-bok* no-nyn* sgn-be-fr sgn-be-nl sgn-ch-de zh-guoyu* zh-hakka* zh-min* zh-min-nan* zh-xiang*"
	for _, word := range strings.Fields(list) {
		name, star := strings.CutSuffix(word, "*")
		names, regular = append(names, name), append(regular, star)
	}
	return names, regular
}

// strange are numbers that no tag has.
func strange() []int {
	return []int{math.MinInt, math.MinInt + 1, math.MinInt32, -256, -27, -26, -25, -2, -1,
		26, 27, 51, 52, 255, 256, 1 << 16, math.MaxInt32, 1 << 32, 1<<32 + 8, math.MaxInt - 1, math.MaxInt}
}

// holdFind holds what Find tells of a text against a look at each of the tags.
func holdFind(t *testing.T, s string) {
	t.Helper()
	names, _ := listed()
	want := slices.Index(names, small(s))
	got, found := grand.Find(s)
	if found != (want >= 0) || got != max(want, 0) {
		t.Errorf("Find(%q): %d, %v, want %d, %v", s, got, found, max(want, 0), want >= 0)
	}
}

// small turns the great letters of ASCII, and no other byte.
func small(s string) string {
	b := []byte(s)
	for i, c := range b {
		if c >= 'A' && c <= 'Z' {
			b[i] = c + 'a' - 'A'
		}
	}
	return string(b)
}

// P5.1: there are 26.
func TestLen(t *testing.T) {
	if n := grand.Len(); n != 26 {
		t.Errorf("Len: %d, want 26", n)
	}
}

// P5.1: each has its number, and each number its one.
func TestNumbers(t *testing.T) {
	names, _ := listed()
	for i, want := range names {
		if name, there := grand.Name(i); name != want || !there {
			t.Errorf("Name(%d): %q, %v, want %q", i, name, there, want)
		}
		if at, found := grand.Find(want); at != i || !found {
			t.Errorf("Find(%q): %d, %v, want %d", want, at, found, i)
		}
	}
}

// P5.1: no other number has one.
func TestStrangeNumbers(t *testing.T) {
	for _, i := range strange() {
		if name, there := grand.Name(i); name != "" || there {
			t.Errorf("Name(%d): %q, %v", i, name, there)
		}
		if grand.Regular(i) {
			t.Errorf("Regular(%d)", i)
		}
	}
}

// P5.1: those with a star are regular.
func TestRegular(t *testing.T) {
	_, regular := listed()
	for i, want := range regular {
		if got := grand.Regular(i); got != want {
			t.Errorf("Regular(%d): %v, want %v", i, got, want)
		}
	}
}

// P5.1: cases play no part.
func TestCases(t *testing.T) {
	names, _ := listed()
	for i, name := range names {
		for mask := range 1 << len(name) {
			mixed := []byte(name)
			for place := range mixed {
				if mask>>place&1 == 1 && mixed[place] != '-' {
					mixed[place] -= 'a' - 'A'
				}
			}
			if at, found := grand.Find(string(mixed)); at != i || !found {
				t.Fatalf("Find(%q): %d, %v, want %d", mixed, at, found, i)
			}
		}
	}
}

// P5.1: a text that is none of them is not found: pieces of one, one with another text at its ends, pieces left out.
func TestNoneOfThem(t *testing.T) {
	names, _ := listed()
	rests := []string{"", "-", "--", "x", "-x", "-x-a", " ", "\t", "\n", "\x00", "\x80", "\xff", "é", "*", "_", "-us", "-nan", "-NAN", "i-", "zh-"}
	for _, name := range names {
		for cut := range len(name) {
			holdFind(t, name[:cut])
			holdFind(t, name[cut:])
			holdFind(t, name[:cut]+name[cut+1:])
			holdFind(t, name[:cut]+name[cut:cut+1]+name[cut:])
		}
		for _, rest := range rests {
			holdFind(t, name+rest)
			holdFind(t, rest+name)
			holdFind(t, rest)
		}
		holdFind(t, strings.ReplaceAll(name, "-", "_"))
		holdFind(t, strings.ReplaceAll(name, "-", "‐"))
		holdFind(t, strings.ReplaceAll(name, "-", ""))
		for _, other := range names {
			holdFind(t, name+other)
			holdFind(t, name+"-"+other)
		}
	}
	for _, s := range []string{"", "-", "a", "i", "i-", "en", "zz", "zh", "en-US", "sgn-be", "sgn-ch-fr", "zh-min-yue", "x-i-ami", "İ-ami", "ı-ami", "i-\u212Alingon", "ſgn-be-fr"} {
		holdFind(t, s)
	}
}

// P5.1: another byte at a place of one, or ahead of it, makes it another text.
func TestEveryByte(t *testing.T) {
	names, _ := listed()
	for _, name := range names {
		for place := range len(name) + 1 {
			for b := range 256 {
				byteText := string([]byte{byte(b)})
				holdFind(t, name[:place]+byteText+name[place:])
				if place < len(name) {
					holdFind(t, name[:place]+byteText+name[place+1:])
				}
			}
		}
	}
}

// R5: no text is too long.
func TestLong(t *testing.T) {
	names, _ := listed()
	for _, rest := range []string{"-", "a", "z", "-nan", "\xff"} {
		long := strings.Repeat(rest, 1<<20)
		holdFind(t, long)
		for _, name := range names {
			holdFind(t, name+long)
		}
	}
}

// told tells what a walk over all tells, up to so many.
func told(most int) []string {
	var all []string
	for i, name := range grand.All() {
		all = append(all, fmt.Sprint(i, " ", name))
		if len(all) == most {
			break
		}
	}
	return all
}

// numbered are the names as told tells them.
func numbered() []string {
	names, _ := listed()
	for i, name := range names {
		names[i] = fmt.Sprint(i, " ", name)
	}
	return names
}

// P5.1: All tells all, in order, with their numbers.
func TestAll(t *testing.T) {
	want := numbered()
	if got := told(-1); !slices.Equal(got, want) {
		t.Errorf("All: %q, want %q", got, want)
	}
}

// P5.1, R1: a walk may be left off at each of them.
func TestLeftOff(t *testing.T) {
	want := numbered()
	for most := 1; most <= len(want); most++ {
		if got := told(most); !slices.Equal(got, want[:most]) {
			t.Errorf("All, up to %d: %q", most, got)
		}
		calls := 0
		grand.All()(func(int, string) bool { calls++; return calls < most })
		if calls != most {
			t.Errorf("All, left off at %d: %d calls", most, calls)
		}
	}
}

// P5.1, R1: a walk may be gone over again, also after it was left off, and within itself.
func TestAgain(t *testing.T) {
	names, _ := listed()
	walk := grand.All()
	for most := len(names); most > 0; most-- {
		var got []string
		for i, name := range walk {
			if i != len(got) {
				t.Fatalf("All again: %d, want %d", i, len(got))
			}
			if got = append(got, name); len(got) == most {
				break
			}
		}
		if !slices.Equal(got, names[:most]) {
			t.Errorf("All again, up to %d: %q", most, got)
		}
	}
	for outer := range walk {
		inner := 0
		for i, name := range walk {
			if name != names[i] || i != inner {
				t.Errorf("All within itself, at %d: %d %q", outer, i, name)
			}
			inner++
		}
		if inner != len(names) {
			t.Errorf("All within itself, at %d: %d told", outer, inner)
		}
	}
}

// The chapter's example.
func TestExamples(t *testing.T) {
	if at, found := grand.Find("I-KLINGON"); at != 8 || !found {
		t.Errorf("Find: %d, %v, want 8, true", at, found)
	}
}
