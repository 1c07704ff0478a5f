package pack_test

import (
	"cmp"
	"math"
	"strings"
	"testing"

	"isogloss/pack"
)

// may is all bytes of packed texts, in order.
const may = "!$*0123456789abcdefghijklmnopqrstuvwxyz"

// holdPack holds what is told of a text against what it should be.
func holdPack(t *testing.T, s string, want uint64, wantOk bool) {
	t.Helper()
	if n, ok := pack.Pack(s); n != want || ok != wantOk {
		t.Errorf("Pack(%.50q): %016x, %t, want %016x, %t", s, n, ok, want, wantOk)
	}
}

// holdUnpack holds what is told of a number against what it should be.
func holdUnpack(t *testing.T, n uint64, want string, wantOk bool) {
	t.Helper()
	if s, ok := pack.Unpack(n); s != want || ok != wantOk {
		t.Errorf("Unpack(%016x): %q, %t, want %q, %t", n, s, ok, want, wantOk)
	}
}

// holdGet holds what is read from a text against what it should be.
func holdGet(t *testing.T, s string, at, size int, want uint64, wantOk bool) {
	t.Helper()
	if n, ok := pack.Get(s, at, size); n != want || ok != wantOk {
		t.Errorf("Get(%.50q, %d, %d): %x, %t, want %x, %t", s, at, size, n, ok, want, wantOk)
	}
}

// holdPut holds the bytes of a number against what they should be.
func holdPut(t *testing.T, n uint64, size int, want string) {
	t.Helper()
	if got := pack.Put(n, size); got != want {
		t.Errorf("Put(%x, %d): %q, want %q", n, size, got, want)
	}
}

// P3.1: packed texts as numbers, and the other way.
func TestPacked(t *testing.T) {
	for _, c := range []struct {
		s string
		n uint64
	}{
		{"", 0},
		{"a", 0x6100000000000000},
		{"0", 0x3000000000000000},
		{"*", 0x2a00000000000000},
		{"!", 0x2100000000000000},
		{"$", 0x2400000000000000},
		{"en", 0x656e000000000000},
		{"419", 0x3431390000000000},
		{"latn", 0x6c61746e00000000},
		{"$enus", 0x24656e7573000000},
		{"!cnsar", 0x21636e7361720000},
		{"a*!$z09", 0x612a21247a303900},
		{"abcdefgh", 0x6162636465666768},
		{"zzzzzzzz", 0x7a7a7a7a7a7a7a7a},
		{"!!!!!!!!", 0x2121212121212121},
	} {
		holdPack(t, c.s, c.n, true)
		holdPack(t, strings.ToUpper(c.s), c.n, true)
		holdUnpack(t, c.n, c.s, true)
	}
	holdPack(t, "eN", 0x656e000000000000, true)
	holdPack(t, "Latn", 0x6c61746e00000000, true)
	holdPack(t, "aBcDeFgH", 0x6162636465666768, true)
}

// P3.1: what is no packed text has no number.
func TestNotPacked(t *testing.T) {
	for _, s := range []string{
		"abcdefghi", "ABCDEFGHI", "123456789", "*********", "abcdefgh\x00", "abcdefgh-", strings.Repeat("a", 16), strings.Repeat("Z", 5000),
		"a-b", "en-US", "-", "-a", "a-", " ", "a b", "a_b", "\x00", "a\x00", "\x00a", "a\x00b", "a\x00\x00\x00\x00\x00\x00\x00", "\n", "a\n",
		"en.", "#", "%", "+", "(", ")", ",", "/", ":", "@", "[", "`", "{", "\"", "\x7f", "\x80", "a\xff", "\xe1", "\xc1", "é", "É", "\u212a", "ſ", "ı", "٣",
	} {
		holdPack(t, s, 0, false)
	}
}

// P3.1: each byte, at each place of texts of each size.
func TestBytesOfTexts(t *testing.T) {
	for b := range 256 {
		small := byte(b)
		if 'A' <= small && small <= 'Z' {
			small += 'a' - 'A'
		}
		ok := strings.IndexByte(may, small) >= 0
		for size := 1; size <= 8; size++ {
			for at := range size {
				s := []byte("abcdefgh"[:size])
				s[at] = byte(b)
				var want uint64
				if ok {
					for i := range s {
						want |= uint64(s[i]) << (56 - 8*i)
					}
					want += uint64(small-byte(b)) << (56 - 8*at)
				}
				holdPack(t, string(s), want, ok)
			}
		}
	}
}

// P3.1: each byte, at each place of a number.
func TestBytesOfNumbers(t *testing.T) {
	for b := range 256 {
		for at := range 8 {
			for size := at + 1; size <= 8; size++ {
				s := []byte("abcdefgh"[:size])
				s[at] = byte(b)
				var n uint64
				for i := range s {
					n |= uint64(s[i]) << (56 - 8*i)
				}
				want, ok := string(s), strings.IndexByte(may, byte(b)) >= 0
				if b == 0 && at == size-1 { // what a 0 ends is the text ahead of it
					want, ok = want[:at], true
				}
				if !ok {
					want = ""
				}
				holdUnpack(t, n, want, ok)
			}
		}
	}
}

// P3.1: numbers that are of no packed text.
func TestNotUnpacked(t *testing.T) {
	for _, n := range []uint64{
		1, 0x61, 0x6162, 0x61000000, math.MaxUint64, 1 << 63, 1 << 56, 0x00ffffffffffffff,
		0x6100620000000000, 0x0061000000000000, 0x0061626364656667, 0x6162636465660068, 0x6100000000000061, 0x6100000000000001, 0x0000000000000061,
		0x4100000000000000, 0x6141000000000000, 0x616263646566675a, 0x454e000000000000,
		0x612d620000000000, 0x2000000000000000, 0x6120000000000000, 0x8000000000000000, 0x61ff000000000000, 0xe100000000000000, 0xc3a9000000000000,
	} {
		holdUnpack(t, n, "", false)
	}
}

// P3.2: the lowest bytes of a number, for all sizes.
func TestPut(t *testing.T) {
	const n, all = 0x01020304fafbfcfd, "\x01\x02\x03\x04\xfa\xfb\xfc\xfd"
	for size := range 9 {
		holdPut(t, n, size, all[8-size:])
		holdPut(t, 0, size, strings.Repeat("\x00", size))
		holdPut(t, math.MaxUint64, size, strings.Repeat("\xff", size))
	}
	for _, size := range []int{-1, -2, -8, -9, math.MinInt32, math.MinInt + 1, math.MinInt} {
		holdPut(t, n, size, "")
	}
	for _, size := range []int{9, 10, 16, 255, 256, 264, math.MaxInt32, math.MaxInt - 1, math.MaxInt} {
		holdPut(t, n, size, all)
	}
	holdPut(t, 0x010203, 2, "\x02\x03")
	holdPut(t, 0x010203, 8, "\x00\x00\x00\x00\x00\x01\x02\x03")
	holdPut(t, 4000, 2, "\x0f\xa0")
	holdPut(t, 0x1ff, 1, "\xff")
}

// P3.2: what is read of a text, at all places and of all sizes.
func TestGet(t *testing.T) {
	const s = "\x00\x01aB\x80\xff\x00\xfe\x02-z"
	for length := range len(s) + 1 {
		text := s[:length]
		for at := -3; at <= length+3; at++ {
			for size := -2; size <= 12; size++ {
				ok := size >= 0 && size <= 8 && at >= 0 && at+size <= length
				var want uint64
				for i := 0; ok && i < size; i++ {
					want = want*256 + uint64(text[at+i])
				}
				holdGet(t, text, at, size, want, ok)
			}
		}
	}
}

// P3.2: the edges by hand: sizes 0 and 8, the last place, and places and sizes that may not be.
func TestGetEdges(t *testing.T) {
	for _, c := range []struct {
		s        string
		at, size int
		want     uint64
		ok       bool
	}{
		{"xAB", 1, 2, 0x4142, true}, {"xAB", 0, 3, 0x784142, true}, {"xAB", 2, 1, 0x42, true}, {"xAB", 2, 2, 0, false}, {"xAB", 1, 3, 0, false},
		{"", 0, 0, 0, true}, {"", 0, 1, 0, false}, {"", 1, 0, 0, false}, {"", -1, 0, 0, false}, {"", -1, 1, 0, false}, {"", -8, 8, 0, false},
		{"xAB", 0, 0, 0, true}, {"xAB", 3, 0, 0, true}, {"xAB", 4, 0, 0, false}, {"xAB", -1, 0, 0, false},
		{"abcdefgh", 0, 8, 0x6162636465666768, true}, {"abcdefgh", 1, 8, 0, false}, {"abcdefgh", 0, 9, 0, false}, {"abcdefgh", -1, 8, 0, false},
		{"xabcdefgh", 1, 8, 0x6162636465666768, true}, {"xabcdefgh", 2, 8, 0, false}, {"xabcdefgh", 0, 9, 0, false}, {"xabcdefgh", 1, 9, 0, false},
		{"\xff\xff\xff\xff\xff\xff\xff\xff", 0, 8, math.MaxUint64, true}, {"abc", 0, 8, 0, false}, {"abc", -5, 8, 0, false},
		{"abc", 0, -1, 0, false}, {"abc", 4, -1, 0, false}, {"abc", 3, -1, 0, false}, {"abc", 1, math.MinInt, 0, false}, {"abc", 0, math.MaxInt, 0, false},
		{"abc", math.MinInt, 0, 0, false}, {"abc", math.MinInt, 8, 0, false}, {"abc", math.MinInt, math.MinInt, 0, false}, {"abc", math.MinInt, math.MaxInt, 0, false},
		{"abc", math.MaxInt, 0, 0, false}, {"abc", math.MaxInt, 1, 0, false}, {"abc", math.MaxInt, 8, 0, false}, {"abc", math.MaxInt, math.MaxInt, 0, false},
		{"abc", math.MaxInt, math.MinInt, 0, false}, {"abc", -1, math.MinInt, 0, false}, {"abc", math.MaxInt - 1, 2, 0, false}, {"abc", 0, math.MinInt + 1, 0, false},
		{strings.Repeat("-", 70000) + "yz", 70000, 2, 0x797a, true}, {strings.Repeat("-", 70000) + "yz", 70001, 2, 0, false},
	} {
		holdGet(t, c.s, c.at, c.size, c.want, c.ok)
	}
}

// P3.2: what was put is got, wherever it stands.
func TestPutAndGot(t *testing.T) {
	for _, n := range []uint64{0, 1, 255, 256, 0x4142, 0x0100000000000000, 1 << 63, 0x0123456789abcdef, math.MaxUint64} {
		for size := range 9 {
			low := n
			if size < 8 {
				low = n & (1<<(8*size) - 1)
			}
			for at := range 4 {
				holdGet(t, strings.Repeat("x", at)+pack.Put(n, size)+"y", at, size, low, true)
			}
		}
	}
}

// packedTexts tells many packed texts: all of up to two bytes, and longer ones with these ahead or behind.
func packedTexts() []string {
	short := []string{""}
	for _, b := range may {
		short = append(short, string(b))
		for _, c := range may {
			short = append(short, string(b)+string(c))
		}
	}
	all := short
	for i, s := range short {
		if i%7 == 0 {
			all = append(all, "en"+s, "abcdef"+s, s+"!zz", s+"zzzzzz")
		}
	}
	return all
}

// P3.3: the numbers stand as the texts do; and each text has its own, and is unpacked of it.
func TestOrder(t *testing.T) {
	texts := packedTexts()
	numbers := make([]uint64, len(texts))
	for i, s := range texts {
		n, ok := pack.Pack(s)
		if !ok {
			t.Errorf("Pack(%q): false", s)
		}
		numbers[i] = n
		holdUnpack(t, n, s, true)
	}
	for i, a := range texts {
		for j, b := range texts {
			if got, want := cmp.Compare(numbers[i], numbers[j]), strings.Compare(a, b); got != want {
				t.Fatalf("%q and %q stand %d, their numbers %d", a, b, want, got)
			}
		}
	}
}

// The chapter's examples.
func TestExamples(t *testing.T) {
	holdPack(t, "EN", 0x656e000000000000, true)
	holdGet(t, "xAB", 1, 2, 0x4142, true)
}
