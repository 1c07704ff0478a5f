package ascii_test

import (
	"strings"
	"testing"

	"isogloss/ascii"
)

const (
	smalls = "abcdefghijklmnopqrstuvwxyz"
	greats = "ABCDEFGHIJKLMNOPQRSTUVWXYZ"
	digits = "0123456789"
)

// bytes tells every text of one byte.
func bytes() []string {
	var all []string
	for b := range 256 {
		all = append(all, string([]byte{byte(b)}))
	}
	return all
}

// askAll holds what a text is asked against its class.
func askAll(t *testing.T, s string, class int) {
	t.Helper()
	if got := ascii.Class(s); got != class {
		t.Errorf("Class(%q): %d, want %d", s, got, class)
	}
	if got := ascii.Alpha(s); got != (class == 1) {
		t.Errorf("Alpha(%q): %t", s, got)
	}
	if got := ascii.Digit(s); got != (class == 2) {
		t.Errorf("Digit(%q): %t", s, got)
	}
	if got := ascii.Alnum(s); got != (class != 0) {
		t.Errorf("Alnum(%q): %t", s, got)
	}
}

// classOf is the class of a text of one byte.
func classOf(b string) int {
	switch {
	case strings.Contains(smalls+greats, b):
		return 1
	case strings.Contains(digits, b):
		return 2
	}
	return 0
}

// P2.1: texts, their edges, and what is neither letter nor digit.
func TestAsked(t *testing.T) {
	for class, texts := range [][]string{
		{
			"", "-", " ", "_", "en-US", "en us", "en_US", "-en", "en-", "1994-", "-1", "+1", "1.5", "*", "en*", "\x00", "a\x00", "\n", "1\n",
			"@", "[", "`", "{", "/", ":", "A@", "Z[", "a`", "z{", "0/", "9:", "@A", "[Z", "`a", "{z", "/0", ":9",
			"\x80", "\xc1", "\xe1", "\xfa", "\xff", "a\xff", "\xffa", "1\xb1", "\xb11", "é", "É", "dé", "ß", "ı", "\u212a", "٣", "१", "a1é", "Å",
		},
		{"a", "z", "A", "Z", "m", "en", "EN", "eN", "Latn", "latn", "LATN", smalls, greats, strings.Repeat("aZ", 5000)},
		{"0", "9", "5", "00", "1994", "419", digits, strings.Repeat("09", 5000)},
		{"a0", "0a", "Z9", "9Z", "1994a", "a1994", "a1b2", "rozaj1", smalls + greats + digits, strings.Repeat("x", 5000) + "1"},
	} {
		for _, s := range texts {
			askAll(t, s, class)
		}
	}
}

// P2.1: each byte alone, and beside a letter and a digit.
func TestAskedOfBytes(t *testing.T) {
	for _, b := range bytes() {
		class := classOf(b)
		askAll(t, b, class)
		askAll(t, b+b, class)
		if class == 0 {
			for _, s := range []string{b + "a", "a" + b, b + "1", "1" + b, "Z" + b + "Z", "a" + b + "1"} {
				askAll(t, s, 0)
			}
			continue
		}
		withLetter, withDigit := class|1, class|2
		for _, letter := range []string{"a", "Z"} {
			askAll(t, b+letter, withLetter)
			askAll(t, letter+b, withLetter)
		}
		askAll(t, b+"0", withDigit)
		askAll(t, "9"+b, withDigit)
	}
}

// P2.2: Lower, Upper and Title.
func TestCases(t *testing.T) {
	for _, c := range [][4]string{ // the text, Lower, Upper, Title
		{"", "", "", ""},
		{"a", "a", "A", "A"},
		{"A", "a", "A", "A"},
		{"lATN", "latn", "LATN", "Latn"},
		{"latn", "latn", "LATN", "Latn"},
		{"LATN", "latn", "LATN", "Latn"},
		{"1aB", "1ab", "1AB", "1ab"},
		{"1994", "1994", "1994", "1994"},
		{"en-LATN-us", "en-latn-us", "EN-LATN-US", "En-latn-us"},
		{" aB", " ab", " AB", " ab"},
		{"-aB", "-ab", "-AB", "-ab"},
		{"@AZ[`az{/09:", "@az[`az{/09:", "@AZ[`AZ{/09:", "@az[`az{/09:"},
		{"éÉaÀ", "éÉaÀ", "éÉAÀ", "éÉaÀ"},
		{"éA", "éa", "éA", "éa"},
		{"ßıſ\u212aI", "ßıſ\u212ai", "ßıſ\u212aI", "ßıſ\u212ai"},
		{"\xffA\x80b\xc3", "\xffa\x80b\xc3", "\xffA\x80B\xc3", "\xffa\x80b\xc3"},
		{"A\xe1\xc1", "a\xe1\xc1", "A\xe1\xc1", "A\xe1\xc1"},
		{"\x00Ab", "\x00ab", "\x00AB", "\x00ab"},
		{greats, smalls, greats, "A" + smalls[1:]},
		{smalls, smalls, greats, "A" + smalls[1:]},
		{strings.Repeat("aB-1é", 3000), strings.Repeat("ab-1é", 3000), strings.Repeat("AB-1é", 3000), "A" + strings.Repeat("ab-1é", 3000)[1:]},
	} {
		holdCases(t, c[0], c[1], c[2], c[3])
	}
}

// holdCases holds the cases of a text against what they should be.
func holdCases(t *testing.T, s, lower, upper, title string) {
	t.Helper()
	if got := ascii.Lower(s); got != lower {
		t.Errorf("Lower(%.50q): %.50q, want %.50q", s, got, lower)
	}
	if got := ascii.Upper(s); got != upper {
		t.Errorf("Upper(%.50q): %.50q, want %.50q", s, got, upper)
	}
	if got := ascii.Title(s); got != title {
		t.Errorf("Title(%.50q): %.50q, want %.50q", s, got, title)
	}
}

// P2.2: the cases of each byte, alone and behind another one.
func TestCasesOfBytes(t *testing.T) {
	for _, b := range bytes() {
		lower, upper := b, b
		if i := strings.Index(greats, b); i >= 0 {
			lower = smalls[i : i+1]
		}
		if i := strings.Index(smalls, b); i >= 0 {
			upper = greats[i : i+1]
		}
		holdCases(t, b, lower, upper, upper)
		holdCases(t, "x"+b, "x"+lower, "X"+upper, "X"+lower)
		holdCases(t, "1"+b, "1"+lower, "1"+upper, "1"+lower)
	}
}

// P2.2: Compare and Same.
func TestCompare(t *testing.T) {
	for _, c := range []struct {
		a, b string
		want int
	}{
		{"", "", 0}, {"", "a", -1}, {"", "\x00", -1}, {"\x00", "a", -1},
		{"en", "EN", 0}, {"eN", "En", 0}, {"Latn", "LATN", 0}, {"1994", "1994", 0},
		{"en", "en-US", -1}, {"EN", "en-x", -1}, {"en", "ENG", -1}, {"zz", "zza", -1},
		{"a", "B", -1}, {"A", "b", -1}, {"A", "B", -1}, {"a", "b", -1}, {"az", "B", -1}, {"AZ", "ba", -1},
		// Small letters are held against each other: what lies between great and small ones is ahead of both.
		{"_", "A", -1}, {"[", "Z", -1}, {"`", "A", -1}, {"Z", "{", -1}, {"A", "{", -1}, {"@", "`", -1}, {"@", "A", -1},
		{"9", "A", -1}, {"0", "9", -1}, {"10", "9", -1}, {"-", "0", -1},
		{"z", "\x80", -1}, {"\x80", "\xff", -1}, {"z", "é", -1}, {"\xc9", "\xe9", -1}, {"É", "é", -1}, {"en\xff", "EN\xff", 0},
		{"\u212a", "k", 1}, {"ſ", "s", 1},
		{"en-a", "en-B-x", -1}, {"a-z", "aa", -1},
		{strings.Repeat("aB", 5000), strings.Repeat("Ab", 5000), 0},
		{strings.Repeat("aB", 5000), strings.Repeat("Ab", 5000) + "-", -1},
		{strings.Repeat("aB", 5000) + "c", strings.Repeat("Ab", 5000) + "D", -1},
	} {
		holdCompare(t, c.a, c.b, c.want)
		holdCompare(t, c.b, c.a, -c.want)
	}
}

// holdCompare holds how two texts stand against what it should be.
func holdCompare(t *testing.T, a, b string, want int) {
	t.Helper()
	if got := ascii.Compare(a, b); got != want {
		t.Errorf("Compare(%.50q, %.50q): %d, want %d", a, b, got, want)
	}
	if got := ascii.Same(a, b); got != (want == 0) {
		t.Errorf("Same(%.50q, %.50q): %t", a, b, got)
	}
}

// P2.2: all pairs of bytes stand as their small letters do, alone and behind what is the same.
func TestCompareOfBytes(t *testing.T) {
	low := func(b string) string {
		if i := strings.Index(greats, b); i >= 0 {
			return smalls[i : i+1]
		}
		return b
	}
	for _, a := range bytes() {
		for _, b := range bytes() {
			want := strings.Compare(low(a), low(b))
			holdCompare(t, a, b, want)
			holdCompare(t, "x"+a+"b", "X"+b+"B", want)
		}
	}
}

// The chapter's example.
func TestExample(t *testing.T) {
	if got := ascii.Title("lATN"); got != "Latn" {
		t.Errorf("Title: %s", got)
	}
	if got := ascii.Class("1994"); got != 2 {
		t.Errorf("Class: %d", got)
	}
	if !ascii.Same("EN", "en") {
		t.Error("Same: false")
	}
}
