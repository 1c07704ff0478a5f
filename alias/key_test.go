package alias_test

import (
	"math"
	"slices"
	"strings"
	"testing"

	"isogloss/alias"
	"isogloss/api"
	"isogloss/pack"
)

// holdKey holds what Key tells.
func holdKey(t *testing.T, kind int, a, b, want string, wantOk bool) {
	t.Helper()
	for range 2 {
		if got, ok := alias.Key(kind, a, b); got != want || ok != wantOk {
			t.Fatalf("Key(%d, %.50q, %.50q): %q, %v, want %q, %v", kind, a, b, got, ok, want, wantOk)
		}
	}
}

// P12.2: keys, byte by byte, with small letters in the place of great ones.
func TestKey(t *testing.T) {
	holdKey(t, 2, "SGN", "BR", "\x02sgn\x00\x00\x00\x00\x00br\x00\x00\x00\x00\x00\x00", true)
	holdKey(t, 3, "iw", "", "\x03iw\x00\x00\x00\x00\x00\x00\x00\x00\x00\x00\x00\x00\x00\x00", true)
	holdKey(t, 7, "ca", "islamicc", "\x07ca\x00\x00\x00\x00\x00\x00islamicc", true)
	holdKey(t, 7, "Ca", "IslamicC", "\x07ca\x00\x00\x00\x00\x00\x00islamicc", true)
	holdKey(t, 1, "25", "", "\x0125\x00\x00\x00\x00\x00\x00\x00\x00\x00\x00\x00\x00\x00\x00", true)
	// No alias has such texts: they have a key still.
	holdKey(t, 1, "", "", "\x01"+filled("", ""), true)
	holdKey(t, 1, "26", "", "\x01"+filled("26", ""), true)
	holdKey(t, 3, "*", "$enus", "\x03"+filled("*", "$enus"), true)
	holdKey(t, 4, "", "!ABCDEFG", "\x04"+filled("", "!abcdefg"), true)
	holdKey(t, 6, "a", "b", "\x06"+filled("a", "b"), true)
	holdKey(t, 5, "12345678", "ABCDEFGH", "\x0512345678abcdefgh", true)
}

// P12.2: only kinds from 1 to 7 have keys.
func TestKinds(t *testing.T) {
	for kind := -300; kind <= 600; kind++ {
		want := ""
		if 1 <= kind && kind <= 7 {
			want = string([]byte{byte(kind)}) + filled("sgn", "br")
		}
		holdKey(t, kind, "sgn", "br", want, want != "")
	}
	for _, kind := range []int{math.MinInt, math.MinInt + 1, math.MinInt + 3, math.MinInt32, math.MaxInt32, 1 << 16, 1<<16 + 1, 1<<32 + 1, 1<<32 + 7, math.MaxInt - 1, math.MaxInt} {
		holdKey(t, kind, "sgn", "br", "", false)
		holdKey(t, kind, "", "", "", false)
	}
}

// P12.2: what can't be packed has no key, in A or in B.
func TestNoKey(t *testing.T) {
	for _, s := range []string{"abcdefghi", "123456789", "ABCDEFGHI", "a-b", "en-us", "-", " ", "a ", "a\x00", "\x00", "a\x00\x00\x00\x00\x00\x00\x00", "é", "É", "\xff", "a\x80", "_", "#", "\n", "\u212a", strings.Repeat("a", 1<<18)} {
		for kind := range 9 {
			for _, other := range []string{"", "sgn", "*", s} {
				holdKey(t, kind, s, other, "", false)
				holdKey(t, kind, other, s, "", false)
			}
		}
	}
}

// P12.2: Key is told of just the texts that pack.Pack tells.
func TestKeysOfPacked(t *testing.T) {
	all := tried()
	for b := range 256 {
		all = append(all, string([]byte{byte(b)}), "abc"+string([]byte{byte(b)}), string([]byte{byte(b)})+"abcdefg")
	}
	for i, a := range all {
		for _, b := range []string{"", "br", "*", "Latn", "a-b", "abcdefghi", a, all[(i*7+1)%len(all)]} {
			n, packedA := pack.Pack(a)
			m, packedB := pack.Pack(b)
			for kind := 1; kind <= 7; kind++ {
				if packedA && packedB {
					holdKey(t, kind, a, b, string([]byte{byte(kind)})+pack.Put(n, 8)+pack.Put(m, 8), true)
				} else {
					holdKey(t, kind, a, b, "", false)
				}
			}
		}
	}
}

// P12.2: the key of a right alias is what its row begins with, in whatever cases it is asked.
func TestKeysOfRows(t *testing.T) {
	for _, x := range someRight() {
		row, _ := alias.Encode(x)
		holdKey(t, x.Kind, x.A, x.B, row[:17], true)
		holdKey(t, x.Kind, strings.ToUpper(x.A), strings.ToUpper(x.B), row[:17], true)
	}
}

// holdCompare holds how two aliases stand, both ways.
func holdCompare(t *testing.T, x, y api.Alias, want int) {
	t.Helper()
	if got := alias.Compare(x, y); got != want {
		t.Fatalf("Compare(%s, %s): %d, want %d", show(x), show(y), got, want)
	}
	if got := alias.Compare(y, x); got != -want {
		t.Fatalf("Compare(%s, %s): %d, want %d", show(y), show(x), got, -want)
	}
}

// P12.2: aliases that stand in order: by Kind, then A, then B, right or not.
func TestCompare(t *testing.T) {
	var rising []api.Alias
	// Byte by byte: a beginning is ahead of what goes on, great letters of small ones, and all of ASCII of bytes above 127.
	words := []string{"", "\x00", "!", "-", "0", "00", "01", "1", "A", "Z", "Zz", "a", "a\x00", "a-b", "aB", "aa", "ab", "b", "ba", "z", "\x7f", "\x80", "\xc3\x28", "é", "\xff", "\xff\xff"}
	for _, kind := range []int{math.MinInt, math.MinInt + 1, -256, -1, 0, 1, 2, 3, 7, 8, 256, 257, math.MaxInt - 1, math.MaxInt} {
		for at, a := range words {
			rising = append(rising, api.Alias{Kind: kind, A: a, B: words[at/2]}, api.Alias{Kind: kind, A: a, B: words[at/2+1]}, api.Alias{Kind: kind, A: a, B: words[len(words)-1]})
		}
	}
	for i, x := range rising {
		holdCompare(t, x, x, 0)
		for _, y := range rising[i+1:] {
			holdCompare(t, x, y, -1)
		}
	}
	holdCompare(t, api.Alias{Kind: 1, A: "z", B: "z"}, api.Alias{Kind: 2, A: "a", B: "a"}, -1)
	holdCompare(t, api.Alias{Kind: 2, A: "sgn", B: "us"}, api.Alias{Kind: 2, A: "sgo", B: "br"}, -1)
	holdCompare(t, api.Alias{Kind: 2, A: "sgn", B: "us"}, api.Alias{Kind: 2, A: "sgn", B: "br"}, 1)
	holdCompare(t, api.Alias{Kind: 2, A: "SGN"}, api.Alias{Kind: 2, A: "sgn"}, -1)
	holdCompare(t, api.Alias{Kind: 2, A: "a", B: "bc"}, api.Alias{Kind: 2, A: "ab", B: "c"}, -1)
	long := strings.Repeat("a", 1<<22)
	holdCompare(t, api.Alias{A: long, B: long}, api.Alias{A: long, B: long + "\x00"}, -1)
}

// P12.2: L, S and R play no part.
func TestCompareTargets(t *testing.T) {
	targets := []string{"- - -", "- - a", "- - Z", "- - - b", "- - - - c", "- - he latn us", "- - \xff \xff \xff"}
	for _, x := range []api.Alias{{}, {Kind: 3, A: "iw"}, {Kind: 7, A: "ca", B: "islamicc"}, {Kind: -1, A: "*"}} {
		for _, y := range []api.Alias{{Kind: x.Kind, A: x.A, B: x.B}, {Kind: x.Kind, A: x.A, B: x.B + "a"}, {Kind: x.Kind, A: x.A + "a", B: x.B}, {Kind: x.Kind + 1, A: x.A, B: x.B}} {
			want := -1
			if x == y {
				want = 0
			}
			for _, one := range targets {
				for _, other := range targets {
					a, b := made(0, one), made(0, other)
					a.Kind, a.A, a.B = x.Kind, x.A, x.B
					b.Kind, b.A, b.B = y.Kind, y.A, y.B
					holdCompare(t, a, b, want)
				}
			}
		}
	}
}

// manyRight are right aliases whose keys differ in Kind, A or B alone, or in several of them.
func manyRight() []api.Alias {
	all := someRight()
	languages, regions := []string{"aa", "aaa", "aaaa", "aaaaaaaa", "aaaaaaab", "aaaaaaba", "aab", "ab", "az", "b", "ba", "sgn", "zz", "zzzzzzzz"}, []string{"000", "001", "100", "419", "999", "aa", "ab", "ba", "us", "zz"}
	for _, a := range languages {
		for _, b := range regions {
			all = append(all, api.Alias{Kind: 2, A: a, B: b, L: "en"}, api.Alias{Kind: 3, A: a, L: "en", R: b}, api.Alias{Kind: 5, A: b, R: "us"}, api.Alias{Kind: 7, A: b[:2], B: a, L: "true"})
		}
	}
	for _, a := range []string{"0000", "0aaa", "00000", "1994", "19940", "aaaaa", "aaaa0", "9zzz", "zzzzzzzz"} {
		all = append(all, api.Alias{Kind: 6, A: a}, api.Alias{Kind: 6, A: a, L: "scouse"}, api.Alias{Kind: 7, A: "zz", B: a, L: "abc"}, api.Alias{Kind: 4, A: strings.Repeat(a[:1], 4), S: "latn"})
	}
	return slices.DeleteFunc(all, func(x api.Alias) bool { return !rightAgain(x) })
}

// P12.3: the keys of right aliases stand as Compare tells, and so do the rows' beginnings.
func TestOrder(t *testing.T) {
	all := manyRight()
	apart := [4]int{}
	for _, x := range all {
		for _, y := range all {
			a, ok := alias.Key(x.Kind, x.A, x.B)
			b, okB := alias.Key(y.Kind, y.A, y.B)
			if !ok || !okB {
				t.Fatalf("Key of %s, or %s: false", show(x), show(y))
			}
			holdCompare(t, x, y, strings.Compare(a, b))
			switch {
			case x.Kind != y.Kind:
				apart[0]++
			case x.A != y.A:
				apart[1]++
			case x.B != y.B:
				apart[2]++
			default:
				apart[3]++
			}
		}
	}
	if slices.Min(apart[:]) < 100 {
		t.Errorf("too few pairs told apart by Kind, A, B, or nothing: %d", apart)
	}
}
