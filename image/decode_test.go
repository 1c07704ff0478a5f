package image_test

import (
	"fmt"
	"slices"
	"strings"
	"testing"

	"isogloss/alias"
	"isogloss/api"
	"isogloss/image"
)

// holdNone holds that bytes are no image's.
func holdNone(t *testing.T, bytes string) {
	t.Helper()
	for range 2 {
		im, e := image.Decode(bytes)
		if !zero(im) {
			t.Fatalf("Decode(%.500q): %.500q", bytes, fmt.Sprint(im))
		}
		holdFault(t, e, api.ErrForm, 0, "image")
	}
}

// cut are the rows of one kind, of so many bytes each, off the beginning, and what is behind them.
func cut(bytes string, count, width int) ([]string, string) {
	var rows []string
	for range count {
		rows, bytes = append(rows, bytes[:width]), bytes[width:]
	}
	return rows, bytes
}

// rising tells whether each row's key is behind that of the row ahead.
func rising(rows []string, key int) bool {
	for i := range rows {
		if i > 0 && rows[i-1][:key] >= rows[i][:key] {
			return false
		}
	}
	return true
}

// texts are those of a row, whatever they are.
func texts(row string) []string {
	var all []string
	for ; row != ""; row = row[8:] {
		all = append(all, strings.TrimRight(row[:8], "\x00"))
	}
	return all
}

// decodedAgain is the image of bytes, once more.
func decodedAgain(bytes string) (api.Image, bool) {
	var im api.Image
	if len(bytes) < 14 || bytes[:4] != "isog" {
		return im, false
	}
	var counts, widths [4]int
	size := 14
	for kind := range counts {
		counts[kind], widths[kind] = int(bytes[4+2*kind])<<8|int(bytes[5+2*kind]), []int{41, 48, 51, 16}[kind]
		size += counts[kind] * widths[kind]
	}
	if size != len(bytes) || slices.Max(counts[:]) > 4000 {
		return im, false
	}
	im.Threshold, im.Demote = int(bytes[12]), int(bytes[13])
	var rows [4][]string
	left := bytes[14:]
	for kind := range rows {
		rows[kind], left = cut(left, counts[kind], widths[kind])
	}
	right := rising(rows[0], 17) && rising(rows[1], 24) && rising(rows[3], 16)
	for _, row := range rows[0] {
		x, ok := alias.Decode(row)
		im.Aliases, right = append(im.Aliases, x), right && ok
	}
	for _, row := range rows[1] {
		w := texts(row)
		x := api.Likely{L: w[0], S: w[1], R: w[2], ToL: w[3], ToS: w[4], ToR: w[5]}
		im.Likely, right = append(im.Likely, x), right && rightLikelyAgain(x)
	}
	for _, row := range rows[2] {
		w := texts(row[3:])
		x := api.Rule{Level: int(row[0]), Cost: int(row[1]), OneWay: row[2] == 1, D: [3]string(w[:3]), S: [3]string(w[3:])}
		im.Rules, right = append(im.Rules, x), right && rightRuleAgain(x) && row[2] <= 1
	}
	for _, row := range rows[3] {
		w := texts(row)
		x := api.Member{Set: w[0], Region: w[1]}
		im.Members, right = append(im.Members, x), right && rightMemberAgain(x)
	}
	return im, right
}

// holdDecoded holds bytes against their image, or that they have none, as decodedAgain tells; those of an image are its own.
func holdDecoded(t *testing.T, bytes string) bool {
	t.Helper()
	want, ok := decodedAgain(bytes)
	if !ok {
		holdNone(t, bytes)
		return false
	}
	got, e := image.Decode(bytes)
	if e != nil || !same(got, want) {
		t.Fatalf("Decode(%.500q): %.500q, %v, want %.500q", bytes, fmt.Sprint(got), e, fmt.Sprint(want))
	}
	if back, e := image.Encode(got); back != bytes || e != nil {
		t.Fatalf("Encode of what is decoded of %.500q: %.500q, %v", bytes, back, e)
	}
	return true
}

// medium is an image with a few things of each kind.
func medium() api.Image {
	return api.Image{Aliases: someAliases()[3:5], Likely: someLikely()[2:4], Rules: someRules()[9:11], Members: someMembers()[:2], Threshold: 40, Demote: 5}
}

// encoded is the bytes of a right image.
func encoded(t *testing.T, im api.Image) string {
	t.Helper()
	s, e := image.Encode(im)
	if e != nil {
		t.Fatal(e)
	}
	return s
}

// P13.2: bytes of images are decoded to what they are of, in order.
func TestDecode(t *testing.T) {
	const no = "\x00\x00\x00\x00\x00\x00\x00\x00"
	im, e := image.Decode("isog" + no + "\x28\x05")
	if e != nil || !same(im, api.Image{Threshold: 40, Demote: 5}) {
		t.Errorf("Decode of nothing but numbers: %v, %v", im, e)
	}
	im, e = image.Decode("isog\x00\x00\x00\x00\x00\x02\x00\x01\xff\xfe\x03\x64\x01en\x00\x00\x00\x00\x00\x00latn\x00\x00\x00\x00$enus\x00\x00\x00abcdefgh*\x00\x00\x00\x00\x00\x00\x00!abcdefg\x01\x00\x00no\x00\x00\x00\x00\x00\x00" + no + no + "nb\x00\x00\x00\x00\x00\x00" + no + no + "eu\x00\x00\x00\x00\x00\x00419\x00\x00\x00\x00\x00")
	want := api.Image{Rules: []api.Rule{rule(3, 100, true, "en latn $enus abcdefgh * !abcdefg"), rule(1, 0, false, "no - - nb")}, Members: members("eu 419"), Threshold: 255, Demote: 254}
	if e != nil || !same(im, want) {
		t.Errorf("Decode: %v, %v, want %v", im, e, want)
	}
	for _, im := range []api.Image{{}, medium(), full(), {Aliases: someAliases()}, {Likely: someLikely()}, {Rules: someRules()}, {Members: someMembers()}} {
		if !holdDecoded(t, encoded(t, im)) {
			t.Errorf("the bytes of %v are no image's", im)
		}
	}
}

// P13.2: fewer bytes than an image's, and more.
func TestLengths(t *testing.T) {
	for _, im := range []api.Image{{}, {Threshold: 40, Demote: 5}, medium(), {Members: someMembers()}, {Rules: someRules()[:1]}} {
		s := encoded(t, im)
		for size := range len(s) {
			holdNone(t, s[:size])
			holdNone(t, s[size+1:])
			holdNone(t, s[:size]+s[size+1:])
			holdNone(t, s[:size]+"\x00"+s[size:])
		}
		for _, more := range []string{"\x00", "a", "\xff", "isog", strings.Repeat("\x00", 16), strings.Repeat("\x00", 41), strings.Repeat("\x00", 48), strings.Repeat("\x00", 51), s, s[14:] + "\x00", strings.Repeat("\x00", 1<<20)} {
			holdNone(t, s+more)
			holdNone(t, more+s)
		}
	}
	for size := range 100 {
		for _, s := range []string{"\x00", "a", "\xff", "isog", "\x01"} {
			holdNone(t, strings.Repeat(s, size))
		}
	}
	holdNone(t, "isog"+strings.Repeat("\xff", 10))
	holdNone(t, "isog"+strings.Repeat("\xff", 1<<22))
	holdNone(t, "isog"+strings.Repeat("\x00", 1<<22))
}

// P13.2: another beginning.
func TestStarts(t *testing.T) {
	for _, im := range []api.Image{{}, medium()} {
		s := encoded(t, im)
		for _, start := range []string{"ISOG", "Isog", "isoG", "gosi", "isoh", "hsog", "\x00\x00\x00\x00", "    ", "iso\xe7"} {
			holdNone(t, start+s[4:])
		}
		for _, start := range []string{"", "i", "iso", "isogl", "isogisog"} {
			holdNone(t, start+s[4:])
		}
	}
}

// P13.2: other counts than those of the rows that are there.
func TestCounts(t *testing.T) {
	im := medium()
	s := encoded(t, im)
	for kind := range 4 {
		for _, count := range []int{0, 1, 2, 3, 4, 5, 255, 256, 259, 768, 3840, 4000, 4001, 32768, 65535} {
			changed := []byte(s)
			changed[4+2*kind], changed[5+2*kind] = byte(count>>8), byte(count)
			holdDecoded(t, string(changed))
			if count != 2 {
				holdNone(t, string(changed))
			}
		}
	}
	// The least first.
	holdNone(t, "isog\x02\x00\x02\x00\x02\x00\x02\x00"+s[12:])
	// As many bytes, by other counts.
	members := encoded(t, api.Image{Members: many(0, 0, 0, 48).Members})
	holdNone(t, "isog\x00\x00\x00\x10\x00\x00\x00\x00"+members[12:])
	holdNone(t, "isog\x00\x00\x00\x0f\x00\x00\x00\x03"+members[12:])
	aliases := encoded(t, api.Image{Aliases: many(16, 0, 0, 0).Aliases})
	holdNone(t, "isog\x00\x00\x00\x00\x00\x00\x00\x29"+aliases[12:])
}

// P13.2: more rows than an image may have, each of which is right.
func TestManyRows(t *testing.T) {
	rows := rowsAgain(many(4001, 4001, 4001, 4001))
	for kind := range 4 {
		var one [4][]string
		one[kind] = rows[kind][:4000]
		if !holdDecoded(t, joined(40, 5, one)) {
			t.Errorf("4000 rows of kind %d are no image", kind)
		}
		one[kind] = rows[kind]
		holdNone(t, joined(40, 5, one))
	}
	holdNone(t, joined(40, 5, rows))
}

// P13.2: rows out of order, or twice; rules in whatever order are an image's.
func TestRowOrders(t *testing.T) {
	rows := rowsAgain(full())
	if got, want := joined(40, 5, rows), encoded(t, full()); got != want {
		t.Fatalf("%q, want %q", got, want)
	}
	for kind := range 4 {
		for i := range rows[kind] {
			for j := range rows[kind] {
				swapped := rows
				swapped[kind] = slices.Clone(rows[kind])
				swapped[kind][i], swapped[kind][j] = rows[kind][j], rows[kind][i]
				if holdDecoded(t, joined(40, 5, swapped)) != (i == j || kind == 2) {
					t.Errorf("rows %d and %d of kind %d in each other's places", i, j, kind)
				}
				again := rows
				again[kind] = slices.Insert(slices.Clone(rows[kind]), i, rows[kind][j])
				if holdDecoded(t, joined(40, 5, again)) != (kind == 2) {
					t.Errorf("row %d of kind %d once more at %d", j, kind, i)
				}
				put := rows
				put[kind] = slices.Clone(rows[kind])
				put[kind][i] = rows[kind][j]
				if holdDecoded(t, joined(40, 5, put)) != (i == j || kind == 2) {
					t.Errorf("row %d of kind %d in the place of %d", j, kind, i)
				}
			}
		}
	}
	// Rows whose keys are the same, and what is behind them rises.
	holdNone(t, joined(40, 5, [4][]string{{"\x03" + filled("iw", "", "en", "", ""), "\x03" + filled("iw", "", "he", "", "")}, nil, nil, nil}))
	holdNone(t, joined(40, 5, [4][]string{nil, {filled("en", "", "", "en", "latn", "gb"), filled("en", "", "", "en", "latn", "us")}, nil, nil}))
	holdNone(t, joined(40, 5, [4][]string{nil, nil, nil, {filled("eu", "de"), filled("eu", "de")}}))
	// Kinds in each other's places.
	holdNone(t, joined(40, 5, [4][]string{rows[1], rows[0], rows[2], rows[3]}))
	holdNone(t, joined(40, 5, [4][]string{rows[0], rows[1], rows[3], rows[2]}))
}

// P13.2: rows that are not right, alone and among others.
func TestWrongRows(t *testing.T) {
	wrong := [4][]string{
		{"\x00" + filled("iw", "", "he", "", ""), "\x08" + filled("iw", "", "he", "", ""), "\x03" + filled("IW", "", "he", "", ""), "\x03" + filled("iw", "", "", "", ""), "\x03" + filled("\x00iw", "", "he", "", ""), "\x03" + filled("i\xff", "", "he", "", ""), strings.Repeat("\x00", 41), strings.Repeat("\xff", 41)},
		{
			filled("en", "", "", "und", "latn", "us"), filled("", "", "", "en", "latn", "us"), filled("en", "", "", "", "latn", "us"), filled("en", "", "", "en", "", "us"), filled("en", "", "", "en", "latn", ""), filled("EN", "", "", "en", "latn", "us"), filled("en", "Latn", "", "en", "latn", "us"), filled("en", "", "", "en", "latn", "US"), filled("*", "", "", "en", "latn", "us"), filled("en", "", "us", "en", "latn", "$us"),
			filled("\x00en", "", "", "en", "latn", "us"), filled("en\x00a", "", "", "en", "latn", "us"), filled("en", "\x00", "\x00a", "en", "latn", "us"), filled("en", "", "", "en", "latn", "us\x00\x00\x00\x00\x00\x01"), filled("é", "", "", "en", "latn", "us"), filled("en", "", "", "en", "latn", "u\xff"), strings.Repeat("\x00", 48), strings.Repeat("\xff", 48),
		},
		{
			"\x00\x04\x00" + filled("", "", "", "", "", ""), "\x04\x04\x00" + filled("*", "*", "*", "*", "*", "*"), "\x00\x04\x00" + filled("*", "", "", "*", "", ""), "\x01\x65\x00" + filled("*", "", "", "*", "", ""), "\x01\xff\x00" + filled("*", "", "", "*", "", ""), "\x01\x04\x02" + filled("*", "", "", "*", "", ""), "\x01\x04\xff" + filled("*", "", "", "*", "", ""), "\x01\x04\x80" + filled("*", "", "", "*", "", ""), "\x01\x040" + filled("*", "", "", "*", "", ""), "\x01\x041" + filled("*", "", "", "*", "", ""),
			"\x02\x04\x01" + filled("*", "", "", "*", "", ""), "\x01\x04\x01" + filled("*", "*", "", "*", "*", ""), "\x01\x04\x01" + filled("*", "", "", "", "", ""), "\x01\x04\x01" + filled("", "", "", "*", "", ""), "\x01\x04\x01" + filled("EN", "", "", "*", "", ""), "\x03\x04\x01" + filled("*", "*", "$", "*", "*", "*"), "\x03\x04\x01" + filled("*", "*", "*", "*", "*", "!"), "\x03\x04\x01" + filled("*", "*", "$US", "*", "*", "*"), "\x03\x04\x01" + filled("*", "$us", "*", "*", "*", "*"), "\x03\x04\x01" + filled("!us", "*", "*", "*", "*", "*"), "\x03\x04\x01" + filled("*", "*", "$u\x00s", "*", "*", "*"), "\x01\x04\x01" + filled("*", "", "", "*", "", "\x00\x00\x00\x00\x00\x00\x00\x01"), strings.Repeat("\x00", 51), strings.Repeat("\xff", 51),
		},
		{filled("", "us"), filled("eu", ""), filled("EU", "us"), filled("eu", "Us"), filled("abcdefgh", "us"), filled("12345678", "us"), filled("$eu", "us"), filled("eu", "usa"), filled("eu", "*"), filled("\x00eu", "us"), filled("eu", "u\x00s"), filled("e-u", "us"), filled("é", "us"), filled("eu", "\xff\xff"), strings.Repeat("\x00", 16), strings.Repeat("\xff", 16)},
	}
	for kind, all := range wrong {
		for _, row := range all {
			var alone [4][]string
			alone[kind] = []string{row}
			holdNone(t, joined(40, 5, alone))
			rows := rowsAgain(full())
			at, _ := slices.BinarySearch(rows[kind], row)
			if kind == 2 {
				at = len(rows[kind]) / 2
			}
			rows[kind] = slices.Insert(rows[kind], at, row)
			holdNone(t, joined(40, 5, rows))
		}
	}
}

// P13.2, P13.3: images with each byte changed to each other one: what is no image's is refused, all else is encoded to just these bytes.
func TestChanged(t *testing.T) {
	s := encoded(t, medium())
	images := 0
	for at := range len(s) {
		for b := range 256 {
			changed := []byte(s)
			changed[at] = byte(b)
			if holdDecoded(t, string(changed)) {
				images++
			}
		}
	}
	if images < 2*256+len(s) || images > 100*len(s) {
		t.Errorf("%d of these are images", images)
	}
	for _, one := range [][2]byte{{0, 0}, {0, 'a'}, {'a', 0}, {'z', 'z'}, {'1', '1'}, {'A', 'A'}, {'*', 0}, {0, '*'}, {'$', 'a'}, {'!', '0'}, {1, 1}, {255, 255}} {
		for at := range len(s) - 1 {
			holdDecoded(t, s[:at]+string(one[:])+s[at+2:])
		}
	}
}

// P13.3: images of all sorts, there and back.
func TestBack(t *testing.T) {
	for size := range 12 {
		for first := range 11 {
			at := func(count int) (int, int) { return min(first, count), min(first+size, count) }
			im := full()
			a, b := at(len(im.Aliases))
			im.Aliases = im.Aliases[a:b]
			a, b = at(len(im.Likely))
			im.Likely = im.Likely[a:b]
			a, b = at(len(im.Rules))
			im.Rules = im.Rules[a:b]
			a, b = at(len(im.Members))
			im.Members = im.Members[a:b]
			im.Threshold, im.Demote = 23*size, 25*first
			holdBytes(t, im)
			if !holdDecoded(t, encoded(t, im)) {
				t.Errorf("the bytes of %v are no image's", im)
			}
		}
	}
}

// P13.2, R3: what is decoded is the caller's.
func TestOwnImage(t *testing.T) {
	s := encoded(t, full())
	one, _ := image.Decode(s)
	other, _ := image.Decode(s)
	one.Aliases[0], one.Likely[0], one.Rules[0], one.Members[0] = api.Alias{}, api.Likely{}, api.Rule{}, api.Member{}
	one.Rules[1].D[0] = "zz"
	if !same(other, orderedAgain(full())) {
		t.Error("an image was changed by another one")
	}
	if again, e := image.Decode(s); e != nil || !same(again, other) {
		t.Error("an image is not told again")
	}
}
