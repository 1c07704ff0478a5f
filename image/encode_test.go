package image_test

import (
	"fmt"
	"math"
	"slices"
	"strings"
	"testing"

	"isogloss/alias"
	"isogloss/api"
	"isogloss/fault"
	"isogloss/image"
)

// filled is texts, each with noughts behind it, up to 8 bytes.
func filled(all ...string) string {
	row := ""
	for _, s := range all {
		row += s + "\x00\x00\x00\x00\x00\x00\x00\x00"[len(s):]
	}
	return row
}

// rowsAgain are the rows of a right image, kind by kind, once more, all but the rules' rising.
func rowsAgain(im api.Image) [4][]string {
	var all [4][]string
	for _, x := range im.Aliases {
		row, _ := alias.Encode(x)
		all[0] = append(all[0], row)
	}
	for _, x := range im.Likely {
		all[1] = append(all[1], filled(x.L, x.S, x.R, x.ToL, x.ToS, x.ToR))
	}
	for _, x := range im.Rules {
		way := "\x00"
		if x.OneWay {
			way = "\x01"
		}
		all[2] = append(all[2], string([]byte{byte(x.Level), byte(x.Cost)})+way+filled(x.D[0], x.D[1], x.D[2], x.S[0], x.S[1], x.S[2]))
	}
	for _, x := range im.Members {
		all[3] = append(all[3], filled(x.Set, x.Region))
	}
	for _, kind := range []int{0, 1, 3} {
		slices.Sort(all[kind])
	}
	return all
}

// joined is the bytes of rows, whatever they are, of as many as there are of each kind.
func joined(threshold, demote int, rows [4][]string) string {
	out := "isog"
	for _, kind := range rows {
		out += string([]byte{byte(len(kind) >> 8), byte(len(kind))})
	}
	out += string([]byte{byte(threshold), byte(demote)})
	for _, kind := range rows {
		out += strings.Join(kind, "")
	}
	return out
}

// orderedAgain is an image in order, once more, of rows of its own.
func orderedAgain(im api.Image) api.Image {
	im.Aliases = slices.SortedFunc(slices.Values(im.Aliases), func(a, b api.Alias) int {
		return strings.Compare(fmt.Sprint(a.Kind, " ")+filled(a.A, a.B), fmt.Sprint(b.Kind, " ")+filled(b.A, b.B))
	})
	im.Likely = slices.SortedFunc(slices.Values(im.Likely), func(a, b api.Likely) int {
		return strings.Compare(filled(a.L, a.S, a.R), filled(b.L, b.S, b.R))
	})
	im.Rules = slices.Clone(im.Rules)
	im.Members = slices.SortedFunc(slices.Values(im.Members), func(a, b api.Member) int {
		return strings.Compare(filled(a.Set, a.Region), filled(b.Set, b.Region))
	})
	return im
}

// copied is an image with rows of its own.
func copied(im api.Image) api.Image {
	im.Aliases, im.Likely, im.Rules, im.Members = slices.Clone(im.Aliases), slices.Clone(im.Likely), slices.Clone(im.Rules), slices.Clone(im.Members)
	return im
}

// same tells whether two images have the same, in the same order.
func same(a, b api.Image) bool {
	return slices.Equal(a.Aliases, b.Aliases) && slices.Equal(a.Likely, b.Likely) && slices.Equal(a.Rules, b.Rules) && slices.Equal(a.Members, b.Members) && a.Threshold == b.Threshold && a.Demote == b.Demote
}

// zero tells whether an image has nothing.
func zero(im api.Image) bool { return same(im, api.Image{}) }

// holdBytes holds the bytes of a right image, and what is decoded of them: the image, in order.
func holdBytes(t *testing.T, im api.Image) {
	t.Helper()
	before := copied(im)
	want := joined(im.Threshold, im.Demote, rowsAgain(im))
	for range 2 {
		got, e := image.Encode(im)
		if got != want || e != nil {
			t.Fatalf("Encode(%.500q): %.500q, %v, want %.500q", fmt.Sprint(im), got, e, want)
		}
	}
	if !same(im, before) {
		t.Fatalf("Encode changed its image to %.500q", fmt.Sprint(im))
	}
	ordered := orderedAgain(im)
	for range 2 {
		got, e := image.Decode(want)
		if !same(got, ordered) || e != nil {
			t.Fatalf("Decode(%.500q): %.500q, %v, want %.500q", want, fmt.Sprint(got), e, fmt.Sprint(ordered))
		}
		if again, e := image.Encode(got); again != want || e != nil {
			t.Fatalf("Encode of what is decoded of %.500q: %.500q, %v", want, again, e)
		}
	}
}

// holdFault holds what an error tells.
func holdFault(t *testing.T, e error, kind api.Errno, place int, what string) {
	t.Helper()
	if e == nil {
		t.Fatalf("no error, want %d at %d: %s", int(kind), place, what)
	}
	if fault.Kind(e) != kind || fault.Place(e) != place || fault.Total(e) != place || fmt.Sprint(fault.Whats(e)) != "["+what+"]" {
		t.Fatalf("%d at %d (%d): %s, want %d at %d: %s", int(fault.Kind(e)), fault.Place(e), fault.Total(e), fault.Whats(e), int(kind), place, what)
	}
}

// holdWrong holds what is told of an image that has no bytes.
func holdWrong(t *testing.T, im api.Image, kind api.Errno, place int, what string) {
	t.Helper()
	before := copied(im)
	for range 2 {
		got, e := image.Encode(im)
		if got != "" {
			t.Fatalf("Encode(%.500q): %.100q", fmt.Sprint(im), got)
		}
		holdFault(t, e, kind, place, what)
	}
	if !same(im, before) {
		t.Fatalf("Encode changed its image to %.500q", fmt.Sprint(im))
	}
}

// someAliases are right aliases, each with a key of its own.
func someAliases() []api.Alias {
	return []api.Alias{
		{Kind: 7, A: "ca", B: "islamicc", L: "civil"}, {Kind: 1, A: "25", L: "zh", S: "hans", R: "cn"}, {Kind: 2, A: "sgn", B: "us", L: "ase"}, {Kind: 2, A: "sgn", B: "br", L: "bzs"}, {Kind: 3, A: "sh", L: "sr", S: "latn"}, {Kind: 3, A: "iw", L: "he"}, {Kind: 3, A: "sgn", L: "aa"},
		{Kind: 4, A: "qaai", S: "zinh"}, {Kind: 5, A: "dd", R: "de"}, {Kind: 5, A: "840", R: "us"}, {Kind: 6, A: "heploc", L: "alalc97"}, {Kind: 6, A: "polytoni"}, {Kind: 7, A: "ca", B: "aaa", L: "bbb"}, {Kind: 1, A: "00", L: "jbo"},
	}
}

// full is an image with several things of each kind.
func full() api.Image {
	return api.Image{Aliases: someAliases(), Likely: someLikely(), Rules: someRules(), Members: someMembers(), Threshold: 40, Demote: 5}
}

// P13.1: the chapter's example, and images with one thing of each kind, byte by byte.
func TestEncode(t *testing.T) {
	const no = "\x00\x00\x00\x00\x00\x00\x00\x00"
	for _, one := range []struct {
		im    api.Image
		bytes string
	}{
		{api.Image{Threshold: 40, Demote: 5}, "isog" + no + "\x28\x05"},
		{api.Image{}, "isog" + no + "\x00\x00"},
		{api.Image{Aliases: []api.Alias{}, Likely: []api.Likely{}, Rules: []api.Rule{}, Members: []api.Member{}, Demote: 255}, "isog" + no + "\x00\xff"},
		{api.Image{Aliases: []api.Alias{{Kind: 3, A: "iw", L: "he"}}, Threshold: 255}, "isog\x00\x01\x00\x00\x00\x00\x00\x00\xff\x00\x03iw\x00\x00\x00\x00\x00\x00" + no + "he\x00\x00\x00\x00\x00\x00" + no + no},
		{api.Image{Likely: []api.Likely{likely("zh - tw zh hant tw")}}, "isog\x00\x00\x00\x01\x00\x00\x00\x00\x00\x00zh\x00\x00\x00\x00\x00\x00" + no + "tw\x00\x00\x00\x00\x00\x00zh\x00\x00\x00\x00\x00\x00hant\x00\x00\x00\x00tw\x00\x00\x00\x00\x00\x00"},
		{api.Image{Rules: []api.Rule{rule(3, 100, true, "en latn $enus abcdefgh * !abcdefg")}}, "isog\x00\x00\x00\x00\x00\x01\x00\x00\x00\x00\x03\x64\x01en\x00\x00\x00\x00\x00\x00latn\x00\x00\x00\x00$enus\x00\x00\x00abcdefgh*\x00\x00\x00\x00\x00\x00\x00!abcdefg"},
		{api.Image{Rules: []api.Rule{rule(1, 0, false, "no - - nb - -")}}, "isog\x00\x00\x00\x00\x00\x01\x00\x00\x00\x00\x01\x00\x00no\x00\x00\x00\x00\x00\x00" + no + no + "nb\x00\x00\x00\x00\x00\x00" + no + no},
		{api.Image{Members: []api.Member{{Set: "eu", Region: "de"}, {Set: "eu", Region: "419"}}}, "isog\x00\x00\x00\x00\x00\x00\x00\x02\x00\x00eu\x00\x00\x00\x00\x00\x00419\x00\x00\x00\x00\x00eu\x00\x00\x00\x00\x00\x00de\x00\x00\x00\x00\x00\x00"},
	} {
		if got, e := image.Encode(one.im); got != one.bytes || e != nil {
			t.Errorf("Encode(%v): %q, %v, want %q", one.im, got, e, one.bytes)
		}
		holdBytes(t, one.im)
	}
	holdBytes(t, full())
}

// shuffled are the things of a row in another order, told by a number.
func shuffled[T any](row []T, order int) []T {
	all := slices.Clone(row)
	for at := range all {
		order = (order*1103515245 + 12345) & math.MaxInt32
		other := (order >> 8) % len(all)
		all[at], all[other] = all[other], all[at]
	}
	return all
}

// P13.1: rows rise whatever order things are handed over in, all but the rules, which stand as they do.
func TestOrders(t *testing.T) {
	want, e := image.Encode(full())
	if e != nil {
		t.Fatal(e)
	}
	rules := map[string]bool{}
	for order := range 200 {
		im := full()
		im.Aliases, im.Likely, im.Members = shuffled(im.Aliases, order), shuffled(im.Likely, order+1), shuffled(im.Members, order+2)
		holdBytes(t, im)
		if got, _ := image.Encode(im); got != want {
			t.Fatalf("Encode of another order: %.500q, want %.500q", got, want)
		}
		im.Rules = shuffled(im.Rules, order)
		holdBytes(t, im)
		got, _ := image.Encode(im)
		at := 14 + 41*len(im.Aliases) + 48*len(im.Likely)
		if len(got) != len(want) || got[:at] != want[:at] || got[at+51*len(im.Rules):] != want[at+51*len(im.Rules):] {
			t.Fatalf("Encode with rules in another order: %.500q, want %.500q", got, want)
		}
		rules[got] = true
	}
	if len(rules) < 100 {
		t.Errorf("%d orders of rules have bytes of their own", len(rules))
	}
	im := full()
	slices.Reverse(im.Aliases)
	slices.Reverse(im.Likely)
	slices.Reverse(im.Members)
	holdBytes(t, im)
	// Behind digits there are letters, behind a text what goes on.
	holdBytes(t, api.Image{Members: members("b aa", "ab aa", "a zz", "a aa", "a 999", "9 aa", "a0 000"), Likely: []api.Likely{
		likely("en - us en latn us"), likely("en latn - en latn us"), likely("en latn us en latn us"), likely("en - - en latn us"), likely("eng - - en latn us"), likely("ena zzzz zz en latn us"), likely("en - 001 en latn us"),
	}})
	// Rules may be there twice, falling and rising.
	holdBytes(t, api.Image{Rules: []api.Rule{rule(3, 4, true, "* * * * * *"), rule(1, 4, true, "en - - en"), rule(1, 4, true, "en - - en"), rule(2, 4, true, "en * - en *"), rule(1, 4, true, "en - - en")}})
}

// P13.1: what is 0 to 255 is one byte; else ErrArg.
func TestNumbers(t *testing.T) {
	for _, n := range []int{0, 1, 40, 127, 128, 254, 255} {
		for _, m := range []int{0, 5, 255} {
			im := full()
			im.Threshold, im.Demote = n, m
			holdBytes(t, im)
			im.Threshold, im.Demote = m, n
			holdBytes(t, im)
		}
	}
	for _, n := range []int{-1, 256, -2, 257, 296, -216, 1 << 16, 1 << 32, 1<<32 + 40, math.MinInt, math.MinInt + 40, math.MaxInt, -255, -256} {
		for _, m := range []int{0, 255, -1, 256} {
			holdWrong(t, api.Image{Threshold: n, Demote: m}, api.ErrArg, 0, "image")
			holdWrong(t, api.Image{Threshold: m, Demote: n}, api.ErrArg, 0, "image")
			im := full()
			im.Threshold, im.Demote = n, m
			holdWrong(t, im, api.ErrArg, 0, "image")
			im.Threshold, im.Demote = m, n
			holdWrong(t, im, api.ErrArg, 0, "image")
		}
	}
}

// letters is a number as so many letters.
func letters(n, size int) string {
	s := ""
	for range size {
		s = string([]byte{byte('a' + n%26)}) + s
		n /= 26
	}
	return s
}

// many is an image with so many right things of each kind.
func many(counts ...int) api.Image {
	im := api.Image{Threshold: 40, Demote: 5}
	for i := range counts[0] {
		im.Aliases = append(im.Aliases, api.Alias{Kind: api.AliasLang, A: letters(i*7%5003, 3), L: "en"})
	}
	for i := range counts[1] {
		im.Likely = append(im.Likely, api.Likely{L: letters(i*7%5003, 3), ToL: "en", ToS: "latn", ToR: "us"})
	}
	for i := range counts[2] {
		im.Rules = append(im.Rules, rule(1, i*7%101, i%3 == 0, letters(i*7%5003, 3)+" - - *"))
	}
	for i := range counts[3] {
		im.Members = append(im.Members, api.Member{Set: letters(i*7%5003, 3), Region: "us"})
	}
	return im
}

// P13.1: 4000 things of a kind, and of each kind; more are ErrMany, whatever else is wrong.
func TestMany(t *testing.T) {
	holdBytes(t, many(4000, 4000, 4000, 4000))
	holdBytes(t, many(256, 255, 257, 258))
	for kind := range 4 {
		for _, count := range []int{1, 255, 256, 257, 3999, 4000, 4001, 4002, 65535, 65536, 65537} {
			all := []int{3, 2, 1, 0}
			all[kind] = count
			if count <= 5000 {
				im := many(all...)
				if count <= 4000 {
					holdBytes(t, im)
				} else {
					holdWrong(t, im, api.ErrMany, 0, "image")
				}
				continue
			}
			var im api.Image
			switch kind {
			case 0:
				im.Aliases = make([]api.Alias, count)
			case 1:
				im.Likely = make([]api.Likely, count)
			case 2:
				im.Rules = make([]api.Rule, count)
			case 3:
				im.Members = make([]api.Member, count)
			}
			holdWrong(t, im, api.ErrMany, 0, "image")
			im.Threshold, im.Demote = -1, 256
			holdWrong(t, im, api.ErrMany, 0, "image")
		}
	}
	holdWrong(t, many(4001, 4001, 4001, 4001), api.ErrMany, 0, "image")
}

// spoiled is the full image with wrong things at some places of each kind; below 0 there is none.
func spoiled(places ...int) api.Image {
	im := full()
	if at := places[0]; at >= 0 {
		im.Aliases[at].A = "A"
	}
	if at := places[1]; at >= 0 {
		im.Likely[at].ToL = "und"
	}
	if at := places[2]; at >= 0 {
		im.Rules[at].Cost = 101
	}
	if at := places[3]; at >= 0 {
		im.Members[at].Set = ""
	}
	return im
}

// P13.1, R2: the first thing that is not right, of the first such kind, with its number among those of its kind.
func TestFirstWrong(t *testing.T) {
	whats := []string{"alias", "likely", "rule", "member"}
	tries := []int{-1, 0, 1, 5, 10}
	for _, a := range tries {
		for _, b := range tries {
			for _, c := range tries {
				for _, d := range tries {
					im, all := spoiled(a, b, c, d), []int{a, b, c, d}
					kind := slices.IndexFunc(all, func(at int) bool { return at >= 0 })
					if kind < 0 {
						holdBytes(t, im)
						continue
					}
					holdWrong(t, im, api.ErrForm, all[kind], whats[kind])
				}
			}
		}
	}
	for first := range 10 {
		for next := first; next < 11; next++ {
			for kind, what := range whats {
				places := []int{-1, -1, -1, -1}
				places[kind] = first
				im := spoiled(places...)
				switch kind {
				case 0:
					im.Aliases[next] = api.Alias{}
				case 1:
					im.Likely[next] = api.Likely{}
				case 2:
					im.Rules[next] = api.Rule{}
				case 3:
					im.Members[next] = api.Member{}
				}
				holdWrong(t, im, api.ErrForm, first, what)
			}
		}
	}
	im := many(4000, 4000, 4000, 4000)
	im.Members[3999].Region = "USA"
	holdWrong(t, im, api.ErrForm, 3999, "member")
	im.Rules[3999].D[0] = "EN"
	holdWrong(t, im, api.ErrForm, 3999, "rule")
	im.Likely[3999].S = "x"
	holdWrong(t, im, api.ErrForm, 3999, "likely")
	im.Aliases[3999].L = ""
	holdWrong(t, im, api.ErrForm, 3999, "alias")
}

// P13.1: aliases that are not right, as alias.Right tells, in an image.
func TestWrongAliases(t *testing.T) {
	for _, x := range []api.Alias{
		{}, {Kind: 3, A: "iw"}, {Kind: 3, A: "IW", L: "he"}, {Kind: 3, A: "iw", L: "HE"}, {Kind: 3, A: "iw", B: "il", L: "he"}, {Kind: 8, A: "iw", L: "he"}, {Kind: 259, A: "iw", L: "he"}, {Kind: 1, A: "26", L: "en"}, {Kind: 3, A: "abcdefghi", L: "en"}, {Kind: 3, A: "é", L: "en"}, {Kind: 3, A: "i\xff", L: "en"}, {Kind: 5, A: "dd", R: "dee"},
	} {
		for at := range 14 {
			im := full()
			im.Aliases[at] = x
			holdWrong(t, im, api.ErrForm, at, "alias")
			holdWrong(t, api.Image{Aliases: im.Aliases[at:]}, api.ErrForm, 0, "alias")
		}
	}
}

// twice is the full image with one of its aliases, likely rows and members there once more, with the same key, behind some place; below 0 it is not.
func twice(aliases, likely, members, behind int) api.Image {
	im := full()
	if aliases >= 0 {
		// What its kind doesn't ask for its key plays no part.
		again := im.Aliases[aliases]
		if again.Kind == api.AliasLang {
			again.L = "zz"
		}
		im.Aliases = slices.Insert(im.Aliases, aliases+1+behind%(len(im.Aliases)-aliases), again)
	}
	if likely >= 0 {
		again := im.Likely[likely]
		again.ToL, again.ToS, again.ToR = "zz", "zzzz", "zz"
		im.Likely = slices.Insert(im.Likely, likely+1+behind%(len(im.Likely)-likely), again)
	}
	if members >= 0 {
		im.Members = slices.Insert(im.Members, members+1+behind%(len(im.Members)-members), im.Members[members])
	}
	return im
}

// P13.1, R2: two things with the same key, wherever they stand; aliases are ahead of likely rows, these of members.
func TestTwice(t *testing.T) {
	for behind := range 6 {
		for a := -1; a < 10; a++ {
			for b := -1; b < 10; b += 2 {
				for c := -1; c < 10; c += 3 {
					im := twice(a, b, c, behind)
					switch {
					case a >= 0:
						holdWrong(t, im, api.ErrOrder, 0, "alias")
					case b >= 0:
						holdWrong(t, im, api.ErrOrder, 0, "likely")
					case c >= 0:
						holdWrong(t, im, api.ErrOrder, 0, "member")
					default:
						holdBytes(t, im)
					}
				}
			}
		}
	}
	// The key is Kind, A and B; L, S and R; Set and Region.
	holdWrong(t, api.Image{Aliases: []api.Alias{{Kind: 3, A: "iw", L: "he"}, {Kind: 3, A: "sh", L: "sr"}, {Kind: 3, A: "iw", L: "en", S: "latn", R: "us"}}}, api.ErrOrder, 0, "alias")
	holdBytes(t, api.Image{Aliases: []api.Alias{{Kind: 3, A: "us", L: "he"}, {Kind: 5, A: "us", R: "sr"}, {Kind: 2, A: "us", B: "us", L: "he"}, {Kind: 2, A: "us", B: "dd", L: "he"}, {Kind: 2, A: "dd", B: "us", L: "he"}}})
	holdBytes(t, api.Image{Likely: []api.Likely{likely("en - us en latn us"), likely("en latn - en latn us"), likely("en - - en latn us"), likely("en - ca en latn us"), likely("en latn us en latn us")}})
	holdBytes(t, api.Image{Members: members("us us", "us ca", "ca us", "usc aa", "us 419")})
}

// P13.1, R2: of several errors the first that the promise names: what is not right is ahead of what is there twice.
func TestSeveral(t *testing.T) {
	im := twice(0, 0, 0, 3)
	im.Members[4].Region = "USA"
	holdWrong(t, im, api.ErrForm, 4, "member")
	im.Rules[2].Level = 4
	holdWrong(t, im, api.ErrForm, 2, "rule")
	im.Likely[6].ToL = "und"
	holdWrong(t, im, api.ErrForm, 6, "likely")
	im.Aliases[8].Kind = 0
	holdWrong(t, im, api.ErrForm, 8, "alias")
	im.Demote = 256
	holdWrong(t, im, api.ErrArg, 0, "image")
	im.Rules = append(im.Rules, many(0, 0, 4001, 0).Rules...)
	holdWrong(t, im, api.ErrMany, 0, "image")
	// Two wrong things are not asked for their keys.
	holdWrong(t, api.Image{Members: members("- -", "- -")}, api.ErrForm, 0, "member")
	holdWrong(t, api.Image{Likely: []api.Likely{{}, {}}, Aliases: []api.Alias{{Kind: 3, A: "iw", L: "he"}, {Kind: 3, A: "iw", L: "he"}}}, api.ErrForm, 0, "likely")
}

// P13.1, R3: what is encoded is not changed by what is done with the image.
func TestOwnBytes(t *testing.T) {
	im := full()
	s, _ := image.Encode(im)
	im.Aliases[0], im.Likely[0], im.Rules[0], im.Members[0] = api.Alias{}, api.Likely{}, api.Rule{}, api.Member{}
	if want, _ := image.Encode(full()); s != want {
		t.Error("bytes were changed by their image")
	}
}
