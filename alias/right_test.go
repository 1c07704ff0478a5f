package alias_test

import (
	"fmt"
	"math"
	"regexp"
	"strings"
	"testing"

	"isogloss/alias"
	"isogloss/api"
)

// made is an alias of a kind and of the words of a text: A, B, L, S and R, with `-` for an empty one, as far as they are there.
func made(kind int, texts string) api.Alias {
	x := api.Alias{Kind: kind}
	for at, s := range strings.Fields(texts) {
		if s != "-" {
			x = with(x, at, s)
		}
	}
	return x
}

// with is an alias that has a text at one of the five places.
func with(x api.Alias, at int, s string) api.Alias {
	switch at {
	case 0:
		x.A = s
	case 1:
		x.B = s
	case 2:
		x.L = s
	case 3:
		x.S = s
	case 4:
		x.R = s
	}
	return x
}

// texts are those of an alias, in order.
func texts(x api.Alias) []string { return []string{x.A, x.B, x.L, x.S, x.R} }

// show tells an alias in short.
func show(x api.Alias) string { return fmt.Sprintf("%d %.40q", x.Kind, texts(x)) }

// shapes are, by kind, what the whole of A, B, L, S and R must be.
var shapes = map[int][]*regexp.Regexp{
	1: compiled(`0[0-9]|1[0-9]|2[0-5]`, ``, `[a-z]{2,8}`, `|[a-z]{4}`, `|[a-z]{2}|[0-9]{3}`),
	2: compiled(`[a-z]{2,8}`, `[a-z]{2}|[0-9]{3}`, `[a-z]{2,8}`, ``, ``),
	3: compiled(`[a-z]{2,8}`, ``, `[a-z]{2,8}`, `|[a-z]{4}`, `|[a-z]{2}|[0-9]{3}`),
	4: compiled(`[a-z]{4}`, ``, ``, `[a-z]{4}`, ``),
	5: compiled(`[a-z]{2}|[0-9]{3}`, ``, ``, ``, `[a-z]{2}|[0-9]{3}`),
	6: compiled(`[a-z0-9]{5,8}|[0-9][a-z0-9]{3}`, ``, `|[a-z0-9]{5,8}|[0-9][a-z0-9]{3}`, ``, ``),
	7: compiled(`[a-z0-9]{2}`, `[a-z0-9]{3,8}`, `[a-z0-9]{3,8}`, ``, ``),
}

// compiled are patterns of whole texts.
func compiled(patterns ...string) []*regexp.Regexp {
	var all []*regexp.Regexp
	for _, p := range patterns {
		all = append(all, regexp.MustCompile(`\A(?:`+p+`)\z`))
	}
	return all
}

// rightAgain tells once more whether an alias is right.
func rightAgain(x api.Alias) bool {
	shape := shapes[x.Kind]
	for at, s := range texts(x) {
		if shape == nil || !shape[at].MatchString(s) {
			return false
		}
	}
	return true
}

// holdRight holds what Right tells of an alias, and whether it has a row.
func holdRight(t *testing.T, x api.Alias, want bool) {
	t.Helper()
	for range 2 {
		if got := alias.Right(x); got != want {
			t.Fatalf("Right(%s): %v, want %v", show(x), got, want)
		}
	}
	if row, ok := alias.Encode(x); ok != want || (row != "") != want {
		t.Fatalf("Encode(%s): %q, %v, want %v", show(x), row, ok, want)
	}
}

// rightTexts are, by kind, texts of right aliases.
var rightTexts = map[int][]string{
	1: {"00 - jbo", "25 - hsn", "09 - lb", "10 - mingo", "19 - vgt", "20 - sgg", "24 - nan hans cn", "03 - ami latn", "03 - abcdefgh - 419", "03 - en - gb", "17 - abcd zzzz aa"},
	2: {"sgn br bzs", "sgn us ase", "aa 000 zz", "abcdefgh 419 abcdefgh", "en gb en", "abcd zz abcde"},
	3: {"iw - he", "sh - sr latn", "cnr - sr - me", "eng - en", "aa - aa", "abcdefgh - abcdefgh zzzz 999", "en - en latn us", "latn - latn latn"},
	4: {"qaai - - zinh", "aaaa - - zzzz", "latn - - latn"},
	5: {"dd - - - de", "840 - - - us", "us - - - 840", "000 - - - 999", "zz - - - zz"},
	6: {"heploc - alalc97", "heploc", "polytoni - polyton", "1994 - 1996", "1abc - 0000", "abcde - abcdefgh", "12345678 - 12345", "9zzz", "a1b2c - 9z9z"},
	7: {"ca islamicc civil", "kb yes true", "00 000 000", "a1 12345678 abcdefgh", "1a abc z9z9z9z9", "zz abcd efgh"},
}

// someRight are aliases of these texts, kind by kind.
func someRight() []api.Alias {
	var all []api.Alias
	for kind := 1; kind <= 7; kind++ {
		for _, s := range rightTexts[kind] {
			all = append(all, made(kind, s))
		}
	}
	return all
}

// P12.1: right aliases of each kind; of any other kind they are not.
func TestRight(t *testing.T) {
	for _, x := range someRight() {
		holdRight(t, x, true)
		for _, kind := range []int{0, 8, 9, 255, 256, 256 + x.Kind, 1<<32 + x.Kind, -1, -x.Kind, x.Kind - 256, math.MaxInt, math.MinInt, math.MinInt + x.Kind} {
			x.Kind = kind
			holdRight(t, x, false)
		}
	}
	holdRight(t, api.Alias{}, false)
}

// P12.1: what is wrong with aliases, kind by kind.
func TestWrong(t *testing.T) {
	for kind, all := range map[int][]string{
		api.AliasGrand: {
			"26 - hsn", "27 - hsn", "30 - en", "99 - en", "0 - en", "3 - en", "003 - en", "025 - en", "250 - en", "- - en", "ab - en", "0a - en", "a0 - en", "+3 - en", "-3 - en", "3. - en", "i-ami - en",
			"03", "03 - e", "03 - abcdefghi", "03 - e1", "03 - 419", "03 - AMI", "03 - Ami", "03 en en", "03 us en", "03 03 en",
			"03 - en lat", "03 - en latin", "03 - en 1994", "03 - en Latn", "03 - en us", "03 - en - u", "03 - en - usa", "03 - en - 41", "03 - en - 4190", "03 - en - US", "03 - en - 4a9", "03 - - latn us",
		},
		api.AliasPair: {
			"sgn br", "sgn - bzs", "- br bzs", "- - -", "s br bzs", "abcdefghi br bzs", "SGN br bzs", "sgn BR bzs", "sgn br BZS", "sgn b bzs", "sgn bra bzs", "sgn 41 bzs", "sgn 4190 bzs", "sgn br b", "sgn br b2",
			"sgn br bzs latn", "sgn br bzs - br", "sgn br - latn", "s1 br bzs", "419 br bzs",
		},
		api.AliasLang: {
			"iw", "iw - -", "- - he", "iw he", "iw il he", "iw iw he", "i - he", "iw - h", "abcdefghi - he", "iw - abcdefghi", "IW - he", "iw - HE", "iW - he", "i1 - he", "iw - 123", "sh - sr latin", "sh - sr lat", "sh - sr LATN",
			"sh - sr me", "cnr - sr - m", "cnr - sr - mne", "cnr - sr - ME", "cnr - sr - 12", "cnr - - - me", "sh - - latn",
		},
		api.AliasScript: {
			"qaai", "- - - zinh", "qaa - - zinh", "qaaii - - zinh", "qaai - - zin", "qaai - - zinhh", "Qaai - - zinh", "qaai - - ZINH", "qaa1 - - zinh", "qaai - - 1994", "qaai latn - zinh", "qaai - zinh", "qaai - zinh zinh", "qaai - - zinh us", "qaai us - zinh",
		},
		api.AliasRegion: {
			"840", "- - - - us", "dd - - - d", "d - - - de", "deu - - - de", "dd - - - deu", "84 - - - us", "8400 - - - us", "us - - - 84", "us - - - 8400", "DD - - - de", "dd - - - De", "8a0 - - - us", "a1 - - - us", "dd de - - de", "dd - de", "dd - - latn de", "dd - de - de", "dd - - dddd",
		},
		api.AliasVariant: {
			"- - alalc97", "-", "heploc alalc97", "heploc - abc", "heploc - abcd", "hepl", "hep", "abcdefghi", "heploc - abcdefghi", "Heploc - alalc97", "heploc - ALALC97", "1ABC", "1994 - 199", "199", "19945678x", "heploc - - latn", "heploc - alalc97 - us", "heploc - alalc97 latn", "heploc - - - us", "heploc us", "a994", "heploc - a994",
		},
		api.AliasType: {
			"ca", "ca islamicc", "ca - civil", "- islamicc civil", "c islamicc civil", "cal islamicc civil", "ca is civil", "ca i civil", "ca islamiccc civil", "ca islamicc ci", "ca islamicc c", "ca islamicc civilcivi", "CA islamicc civil", "cA islamicc civil", "ca Islamicc civil", "ca islamicc CIVIL",
			"ca islamicc civil latn", "ca islamicc civil - us", "ca islamicc - latn", "c* islamicc civil", "ca isl-amic civil", "ca islamicc $civil", "ca islamicc ci-vil",
		},
	} {
		for _, s := range all {
			holdRight(t, made(kind, s), false)
		}
	}
}

// P12.1: of the numbers of two digits the first 26 are those of grandfathered tags.
func TestNumbers(t *testing.T) {
	for i := range 1000 {
		for _, s := range []string{fmt.Sprint(i), fmt.Sprintf("%02d", i), fmt.Sprintf("%03d", i)} {
			holdRight(t, api.Alias{Kind: api.AliasGrand, A: s, L: "en"}, len(s) == 2 && i < 26)
		}
	}
}

// tried are texts of all sizes around the edges, in small and great letters, and such as no field may be.
func tried() []string {
	all := []string{"", "00", "03", "19", "25", "26", "99", "0a", "a0", "419", "000", "4a9", "1994", "1abc", "abc1", "a1b2c3d4", "us", "latn", "sr", "heploc", "*", "!", "$enus", "ab*", "*abc", "i-ami", "a-b", "é", "ab\x00", "\x00\x00", "ab\n", "\xff\xff", "abé", "\u212a\u212a", "٣٣"}
	for size := 1; size <= 10; size++ {
		letters, digits := "abcdefghij"[:size], "0123456789"[:size]
		all = append(all, letters, digits, strings.ToUpper(letters), letters[:size-1]+"A", "Z"+letters[1:], letters[:size-1]+"7", digits[:size-1]+"z", letters[:size-1]+"-", digits[:size-1]+"\x80")
	}
	return all
}

// P12.1: each of these texts, at one place and at two of an alias that is right but for these, by all kinds.
func TestAll(t *testing.T) {
	for _, x := range someRight() {
		for kind := -1; kind <= 9; kind++ {
			x.Kind = kind
			for at := range 5 {
				for _, s := range tried() {
					y := with(x, at, s)
					holdRight(t, y, rightAgain(y))
				}
			}
		}
	}
	words := []string{"", "a", "us", "US", "he", "25", "26", "abc", "419", "latn", "1994", "heploc", "abcdefgh", "abcdefghi", "*"}
	for kind := 1; kind <= 7; kind++ {
		x := made(kind, rightTexts[kind][0])
		for at := range 5 {
			for more := range at {
				for _, s := range tried() {
					for _, r := range words {
						y := with(with(x, at, s), more, r)
						holdRight(t, y, rightAgain(y))
					}
				}
			}
		}
	}
}

// P12.1: each byte, at each place of each text.
func TestBytes(t *testing.T) {
	for _, x := range someRight() {
		for at, s := range texts(x) {
			for i := range len(s) {
				for b := range 256 {
					changed := []byte(s)
					changed[i] = byte(b)
					y := with(x, at, string(changed))
					holdRight(t, y, rightAgain(y))
					y = with(x, at, s[:i]+string([]byte{byte(b)})+s[i:])
					holdRight(t, y, rightAgain(y))
				}
			}
		}
	}
}

// P1, R5: texts of many bytes are answered, too.
func TestLong(t *testing.T) {
	long := strings.Repeat("a", 1<<22)
	for _, x := range someRight() {
		for at := range 5 {
			holdRight(t, with(x, at, long), false)
		}
	}
}
