package render_test

import (
	"slices"
	"strings"
	"testing"

	"isogloss/render"
)

// turned is a text with each byte between two others, and those two, shifted: no other byte.
func turned(s string, from, to byte, shift int) string {
	b := []byte(s)
	for i, c := range b {
		if from <= c && c <= to {
			b[i] = byte(int(c) + shift)
		}
	}
	return string(b)
}

// small and great are a text in such letters of ASCII.
func small(s string) string { return turned(s, 'A', 'Z', 'a'-'A') }
func great(s string) string { return turned(s, 'a', 'z', 'A'-'a') }

// mixed is a text with great letters at every second place from one on, and small ones at all others.
func mixed(s string, from int) string {
	b := []byte(small(s))
	for i := from; i < len(b); i += 2 {
		b[i] = great(s[i : i+1])[0]
	}
	return string(b)
}

// casedOf is a text with the cases of its pieces, as the chapter's words say.
func casedOf(s string) string {
	pieces := strings.Split(s, "-")
	first := slices.IndexFunc(pieces, func(piece string) bool { return len(piece) == 1 })
	for i, piece := range pieces {
		some := i > 0 && (first < 0 || i < first)
		pieces[i] = small(piece)
		if some && len(piece) == 2 {
			pieces[i] = great(piece)
		}
		if some && len(piece) == 4 {
			pieces[i] = great(piece[:1]) + small(piece[1:])
		}
	}
	return strings.Join(pieces, "-")
}

// holdCase holds what is told of a text, in whatever cases it is, against its cases.
func holdCase(t *testing.T, s, want string) {
	t.Helper()
	for _, s := range []string{s, small(s), great(s), mixed(s, 0), mixed(s, 1)} {
		got := render.Case(s)
		if got != want {
			t.Errorf("Case(%.80q): %.80q, want %.80q", s, got, want)
		}
		if again := render.Case(got); again != got {
			t.Errorf("Case(%.80q), which is of %.80q: %.80q", got, s, again)
		}
	}
}

// rows tells every text of up to so many of these pieces.
func rows(pieces []string, most int) []string {
	all := slices.Clone(pieces)
	last := all
	for range most - 1 {
		var next []string
		for _, s := range last {
			for _, piece := range pieces {
				next = append(next, s+"-"+piece)
			}
		}
		all, last = append(all, next...), next
	}
	return all
}

// P8.1: the chapter's examples.
func TestExamples(t *testing.T) {
	for s, want := range map[string]string{"SGN-be-FR": "sgn-BE-FR", "en-ca-X-CA-latn": "en-CA-x-ca-latn", "AZ-LATN-az": "az-Latn-AZ"} {
		if got := render.Case(s); got != want {
			t.Errorf("Case(%s): %s, want %s", s, got, want)
		}
		holdCase(t, s, want)
	}
}

// P8.1, P8.2: texts with pieces of all sizes, and the cases of these.
func TestCase(t *testing.T) {
	for s, want := range map[string]string{
		// The first piece is in small letters.
		"A": "a", "EN": "en", "ENG": "eng", "LATN": "latn", "ABCDE": "abcde", "ABCDEFGHIJ": "abcdefghij", "1": "1", "12": "12", "1ABC": "1abc", "A1": "a1", "LATN-LATN": "latn-Latn", "US-US": "us-US",
		// Behind it those of 2 and 4 bytes have others, as often as they are there.
		"en-US": "en-US", "en-USA": "en-usa", "en-LATN": "en-Latn", "en-ABCDE": "en-abcde", "en-ABCDEFGHIJ": "en-abcdefghij", "en-US-GB-CA": "en-US-GB-CA", "en-LATN-CYRL-US-HANT-GB": "en-Latn-Cyrl-US-Hant-GB",
		"zh-YUE-HANT-HK-SCOUSE-1994": "zh-yue-Hant-HK-scouse-1994", "en-419-US": "en-419-US", "en-ABCDEFGH-US-ABCDEFGH-LATN": "en-abcdefgh-US-abcdefgh-Latn", "abcd-ABC-AB": "abcd-abc-AB",
		// Digits have no case, and stand for bytes as all others do.
		"en-A1": "en-A1", "en-1A": "en-1A", "en-12": "en-12", "en-1ABC": "en-1abc", "en-A1BC": "en-A1bc", "en-123A": "en-123a", "en-1994": "en-1994", "en-1A2": "en-1a2", "en-1ABCD": "en-1abcd",
		// Behind a piece of one byte all are in small letters.
		"en-U": "en-u", "en-U-US": "en-u-us", "en-X-LATN": "en-x-latn", "en-US-U-US-LATN-GB": "en-US-u-us-latn-gb", "en-1-US": "en-1-us", "en-U-CO-T-EN-LATN-X-US": "en-u-co-t-en-latn-x-us", "en-LATN-A-CA-LATN": "en-Latn-a-ca-latn", "en-USA-X-ABCDE": "en-usa-x-abcde",
		"I-AMI": "i-ami", "X-US": "x-us", "X-US-LATN-X-GB": "x-us-latn-x-gb", "I-US": "i-us", "1-US-LATN": "1-us-latn", "A-B-US": "a-b-us", "A-LATN": "a-latn", "en-GB-OED": "en-GB-oed", "zh-MIN-NAN": "zh-min-nan", "sgn-CH-DE": "sgn-CH-DE",
		// Empty pieces are none of one byte.
		"": "", "-": "-", "--": "--", "---": "---", "-US": "-US", "--US": "--US", "-LATN": "-Latn", "-A": "-a", "-A-US": "-a-us", "-USA": "-usa", "en-": "en-", "en--": "en--", "en--US": "en--US", "en---LATN": "en---Latn", "en-US-": "en-US-", "en-LATN-": "en-Latn-", "-EN-": "-EN-", "en-X-": "en-x-", "en-X--US": "en-x--us", "X--US": "x--us", "A-": "a-", "US-": "us-", "LATN-": "latn-",
		// Other bytes stay, and are bytes alone: no letters, and no pieces.
		"É": "É", "é": "é", "en-é": "en-é", "en-É": "en-É", "en-ß-US": "en-ß-US", "en-Aé": "en-aé", "en-AéB": "en-Aéb", "en-éAB": "en-éab", "en-ABé": "en-Abé", "en-AB\xff": "en-ab\xff", "en-A\xff": "en-A\xff", "en-\xffA": "en-\xffA", "en-\xff-US": "en-\xff-us", "\xff-US": "\xff-us", "\xc3\xa9-US": "\xc3\xa9-US", "en-\x00-US": "en-\x00-us", "en-ABC\x80": "en-Abc\x80", "en-\x80ABC": "en-\x80abc",
		"en_US": "en_us", "EN US": "en us", "en-U_": "en-U_", "en-U S": "en-u s", "en-LA_N": "en-La_n", "en-@[": "en-@[", "en-`{": "en-`{", "en-@AZ[": "en-@az[", "en-[]AZ": "en-[]az", "en-*-US": "en-*-us", "en‐US": "en‐us", "en-ſſ": "en-ſſ", "en-ıI": "en-ıi", "en-\u212a": "en-\u212a", "en-\u212aA": "en-\u212aa",
		"en- US": "en- us", "en-U-": "en-u-", "en-\n": "en-\n", "en-\n-US": "en-\n-us", "*": "*", "*-US": "*-us", "*-*": "*-*", "DE-*-DE": "de-*-de",
	} {
		holdCase(t, s, want)
	}
}

// P8.1, P8.2: all short rows of pieces of 0 to 5 bytes.
func TestCaseRows(t *testing.T) {
	for _, s := range rows([]string{"", "a", "1", "Us", "4a", "yUe", "419", "LATn", "1aBc", "sCous", "é", "\xff"}, 5) {
		holdCase(t, s, casedOf(s))
	}
}

// P8.1: pieces of all sizes, behind all kinds of others.
func TestCaseSizes(t *testing.T) {
	for size := range 20 {
		s := "AbcdefghijklmNopqrst"[:size]
		for _, ahead := range []string{"", "-", "--", "a-", "X-", "-x-", "en-", "abc-", "Latn-", "scouse-", "en-us-", "en-latn-us-", "en--", "en-x-", "en-1-", "en-us-u-co-", "e\xff-", "\xff-", "é-"} {
			for _, behind := range []string{"", "-", "--", "-a", "-us", "-Latn", "-x-us", "-scouse-us"} {
				holdCase(t, ahead+s+behind, casedOf(ahead+s+behind))
			}
		}
	}
}

// P8.1: each byte, at each place of pieces of all sizes.
func TestCaseBytes(t *testing.T) {
	for _, piece := range []string{"a", "aB", "Abc", "aBcD", "ABCD", "aBcDe"} {
		for at := range len(piece) {
			for b := range 256 {
				s := piece[:at] + string([]byte{byte(b)}) + piece[at+1:]
				for _, s := range []string{s, "en-" + s, "-" + s, "en-" + s + "-us", s + "-latn", "en-x-" + s, "x-" + s} {
					holdCase(t, s, casedOf(s))
				}
			}
		}
	}
}

// P1, R5: texts of any length are answered in full, and soon.
func TestCaseLong(t *testing.T) {
	const size = 1 << 18
	long := strings.Repeat("A", size)
	for s, want := range map[string]string{
		long: small(long), "EN-" + long + "-US": "en-" + small(long) + "-US", strings.Repeat("-", size): strings.Repeat("-", size),
		"en" + strings.Repeat("-us", size): "en" + strings.Repeat("-US", size), "en" + strings.Repeat("-LATN", size): "en" + strings.Repeat("-Latn", size),
		"en-x" + strings.Repeat("-US", size): "en-x" + strings.Repeat("-us", size), "en" + strings.Repeat("-", size) + "us": "en" + strings.Repeat("-", size) + "US", "A" + strings.Repeat("-A", size): "a" + strings.Repeat("-a", size),
	} {
		holdCase(t, s, want)
	}
}
