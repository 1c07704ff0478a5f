package tag_test

import (
	"regexp"
	"strings"
	"testing"

	"isogloss/tag"
)

// kinds are the calls of P6.1, each with what the chapter's words say of its subtags.
func kinds() []kind {
	return []kind{
		{"Language", tag.Language, regexp.MustCompile(`\A[A-Za-z]{2,8}\z`)},
		{"Extlang", tag.Extlang, regexp.MustCompile(`\A[A-Za-z]{3}\z`)},
		{"Script", tag.Script, regexp.MustCompile(`\A[A-Za-z]{4}\z`)},
		{"Region", tag.Region, regexp.MustCompile(`\A([A-Za-z]{2}|[0-9]{3})\z`)},
		{"Variant", tag.Variant, regexp.MustCompile(`\A([A-Za-z0-9]{5,8}|[0-9][A-Za-z0-9]{3})\z`)},
		{"Singleton", tag.Singleton, regexp.MustCompile(`\A[A-WYZa-wyz0-9]\z`)},
	}
}

// kind is what a subtag may be.
type kind struct {
	name string
	is   func(string) bool
	want *regexp.Regexp
}

// holdKinds holds what each call tells of a text against the chapter's words.
func holdKinds(t *testing.T, all []kind, s string) {
	t.Helper()
	for _, k := range all {
		if got, want := k.is(s), k.want.MatchString(s); got != want {
			t.Errorf("%s(%.50q): %v, want %v", k.name, s, got, want)
		}
	}
}

// P6.1: what each call tells of texts of all sizes that the chapter names.
func TestKinds(t *testing.T) {
	for _, c := range []struct{ text, kinds string }{
		{"", ""}, {"a", "Singleton"}, {"Z", "Singleton"}, {"0", "Singleton"}, {"9", "Singleton"}, {"x", ""}, {"X", ""}, {"w", "Singleton"}, {"Y", "Singleton"},
		{"en", "Language Region"}, {"EN", "Language Region"}, {"xx", "Language Region"}, {"e1", ""}, {"1e", ""}, {"12", ""},
		{"yue", "Language Extlang"}, {"MIN", "Language Extlang"}, {"419", "Region"}, {"41a", ""}, {"a19", ""}, {"4a9", ""},
		{"latn", "Language Script"}, {"Hant", "Language Script"}, {"arev", "Language Script"}, {"1994", "Variant"}, {"1abc", "Variant"}, {"9ABC", "Variant"}, {"a994", ""}, {"lat1", ""}, {"l1tn", ""},
		{"arevm", "Language Variant"}, {"arev1", "Variant"}, {"12345", "Variant"}, {"a1234", "Variant"}, {"ROZAJ", "Language Variant"}, {"1AREV", "Variant"},
		{"scouse", "Language Variant"}, {"fonipa", "Language Variant"}, {"1606nic", "Variant"}, {"abcdefgh", "Language Variant"}, {"baku1926", "Variant"}, {"12345678", "Variant"},
		{"abcdefghi", ""}, {"123456789", ""}, {"baku19266", ""},
	} {
		for _, k := range kinds() {
			want := strings.Contains(" "+c.kinds+" ", " "+k.name+" ")
			if got := k.is(c.text); got != want {
				t.Errorf("%s(%q): %v, want %v", k.name, c.text, got, want)
			}
		}
	}
}

// P6.1: all short texts of such bytes, and what stands about one.
func TestShortTexts(t *testing.T) {
	all := kinds()
	texts := []string{""}
	for range 6 {
		var next []string
		for _, s := range texts {
			for _, b := range []string{"a", "X", "7", "-", "\xe9"} {
				next = append(next, s+b)
			}
		}
		texts = next
		for _, s := range texts {
			holdKinds(t, all, s)
		}
	}
}

// P6.1: each byte, at each place of texts of all sizes.
func TestEveryByte(t *testing.T) {
	all := kinds()
	for _, row := range []string{"abcdefghij", "ABCDEFGHIJ", "1234567890", "1abcdefghi", "a123456789", "x", "X"} {
		for size := range len(row) + 1 {
			for place := range size {
				for b := range 256 {
					s := []byte(row[:size])
					s[place] = byte(b)
					holdKinds(t, all, string(s))
				}
			}
		}
	}
}

// P6.1: letters and digits that are none of ASCII are neither, and nothing may stand about a subtag.
func TestStrangeTexts(t *testing.T) {
	all := kinds()
	for _, s := range []string{
		"é", "ée", "ſ", "ı", "\u212a", "aé", "日本", "aaé", "\u0664\u0661\u0669", "４１９", "latﬁ", "Łatn", "\xff", "\xffn", "a\x80", "en\x00", "\x00", "\x00\x00",
		" en", "en ", "en\n", "\ten", "419\n", "latn\n", "1994\n", "a\n", "en-", "-en", "e-n", "a-b-c", "en-us", "i-ami", "*", "**", "$", "!eu", "e_n", "1_94", "0x1f", "+12", "-12", "1e5",
	} {
		holdKinds(t, all, s)
	}
}

// P1, R5: no text is too long.
func TestLongTexts(t *testing.T) {
	all := kinds()
	for _, s := range []string{"a", "X", "1", "1a", "-", "\xff", "é"} {
		holdKinds(t, all, strings.Repeat(s, 1<<20))
	}
	for size := range 300 {
		holdKinds(t, all, strings.Repeat("a", size))
		holdKinds(t, all, strings.Repeat("1", size))
	}
}
