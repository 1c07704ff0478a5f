package image_test

import (
	"fmt"
	"math"
	"regexp"
	"strings"
	"testing"

	"isogloss/api"
	"isogloss/image"
)

// What the whole of each text must be.
var (
	language = whole(`[a-z]{2,8}`)
	script   = whole(`[a-z]{4}`)
	region   = whole(`[a-z]{2}|[0-9]{3}`)
	name     = whole(`[a-z0-9]{1,7}`)
	// places are what may stand at each place of a rule.
	places = []*regexp.Regexp{whole(`\*|[a-z]{2,8}`), whole(`\*|[a-z]{4}`), whole(`\*|[a-z]{2}|[0-9]{3}|[$!][a-z0-9]{1,7}`)}
)

// whole is the pattern of a whole text.
func whole(pattern string) *regexp.Regexp { return regexp.MustCompile(`\A(?:` + pattern + `)\z`) }

// words are those of a text, with `-` for an empty one, and empty ones behind them, up to so many.
func words(s string, count int) []string {
	all := make([]string, count)
	for at, word := range strings.Fields(s) {
		if word != "-" {
			all[at] = word
		}
	}
	return all
}

// likely is a likely row of the words of a text.
func likely(s string) api.Likely {
	w := words(s, 6)
	return api.Likely{L: w[0], S: w[1], R: w[2], ToL: w[3], ToS: w[4], ToR: w[5]}
}

// rule is a rule of the words of a text.
func rule(level, cost int, oneWay bool, s string) api.Rule {
	w := words(s, 6)
	return api.Rule{Level: level, Cost: cost, OneWay: oneWay, D: [3]string(w[:3]), S: [3]string(w[3:])}
}

// members are those of texts of two words each.
func members(all ...string) []api.Member {
	var row []api.Member
	for _, s := range all {
		w := words(s, 2)
		row = append(row, api.Member{Set: w[0], Region: w[1]})
	}
	return row
}

// likelyTexts are the places of a likely row's texts, in order.
func likelyTexts(x *api.Likely) []*string {
	return []*string{&x.L, &x.S, &x.R, &x.ToL, &x.ToS, &x.ToR}
}

// ruleTexts are the places of a rule's texts, in order.
func ruleTexts(x *api.Rule) []*string {
	return []*string{&x.D[0], &x.D[1], &x.D[2], &x.S[0], &x.S[1], &x.S[2]}
}

// rightLikelyAgain tells once more whether a likely row is right.
func rightLikelyAgain(x api.Likely) bool {
	return language.MatchString(x.L) && (x.S == "" || script.MatchString(x.S)) && (x.R == "" || region.MatchString(x.R)) &&
		language.MatchString(x.ToL) && script.MatchString(x.ToS) && region.MatchString(x.ToR) && x.ToL != "und"
}

// rightRuleAgain tells once more whether a rule is right.
func rightRuleAgain(x api.Rule) bool {
	if x.Level < 1 || x.Level > 3 || x.Cost < 0 || x.Cost > 100 {
		return false
	}
	for at := range 3 {
		for _, s := range []string{x.D[at], x.S[at]} {
			if at < x.Level && !places[at].MatchString(s) || at >= x.Level && s != "" {
				return false
			}
		}
	}
	return true
}

// rightMemberAgain tells once more whether a member is right.
func rightMemberAgain(x api.Member) bool {
	return name.MatchString(x.Set) && region.MatchString(x.Region)
}

// holdLikely holds whether a likely row is right, and what an image with it alone tells.
func holdLikely(t *testing.T, x api.Likely, want bool) {
	t.Helper()
	for range 2 {
		if got := image.RightLikely(x); got != want {
			t.Fatalf("RightLikely(%.50q): %v, want %v", x, got, want)
		}
	}
	holdAlone(t, api.Image{Likely: []api.Likely{x}}, "likely", want)
}

// holdRule holds whether a rule is right, and what an image with it alone tells.
func holdRule(t *testing.T, x api.Rule, want bool) {
	t.Helper()
	for range 2 {
		if got := image.RightRule(x); got != want {
			t.Fatalf("RightRule(%d %d %v %.50q %.50q): %v, want %v", x.Level, x.Cost, x.OneWay, x.D, x.S, got, want)
		}
	}
	holdAlone(t, api.Image{Rules: []api.Rule{x}}, "rule", want)
}

// holdMember holds whether a member is right, and what an image with it alone tells.
func holdMember(t *testing.T, x api.Member, want bool) {
	t.Helper()
	for range 2 {
		if got := image.RightMember(x); got != want {
			t.Fatalf("RightMember(%.50q): %v, want %v", x, got, want)
		}
	}
	holdAlone(t, api.Image{Members: []api.Member{x}}, "member", want)
}

// holdAlone holds an image with one thing alone, which is right or not.
func holdAlone(t *testing.T, im api.Image, what string, right bool) {
	t.Helper()
	if right {
		holdBytes(t, im)
	} else {
		holdWrong(t, im, api.ErrForm, 0, what)
	}
}

// someLikely are right likely rows, each with a key of its own.
func someLikely() []api.Likely {
	return []api.Likely{
		likely("und - - en latn us"), likely("en - - en latn us"), likely("und cyrl - ru cyrl ru"), likely("zh hant - zh hant tw"), likely("zh - tw zh hant tw"), likely("en latn us en latn us"),
		likely("und - 419 es latn 419"), likely("abcdefgh zzzz 999 abcdefgh zzzz 999"), likely("abcdefgh - - zz aaaa 000"), likely("eng - 001 undx undx aa"), likely("root latn - unda latn zz"), likely("aa - - hant hant 000"), likely("hant hant - aa aaaa aa"),
	}
}

// someRules are right rules.
func someRules() []api.Rule {
	return []api.Rule{
		rule(1, 80, false, "* - - * - -"), rule(2, 50, false, "* * - * * -"), rule(3, 4, false, "* * * * * *"),
		rule(1, 4, true, "no - - nb - -"), rule(1, 0, false, "und - - abcdefgh"), rule(1, 100, true, "aa - - *"), rule(1, 1, true, "latn - - latn"),
		rule(2, 0, true, "zh hans - zh hant"), rule(2, 15, false, "* cyrl - * latn"), rule(2, 100, false, "abcdefgh * - * zzzz"),
		rule(3, 5, false, "en latn $enus en latn !enus"), rule(3, 0, true, "* * $a * * !abcdefg"), rule(3, 100, true, "es latn 419 es latn us"), rule(3, 7, true, "* latn !1234567 abcdefgh * $0"), rule(3, 99, false, "und zzzz $us12 aa aaaa *"),
	}
}

// someMembers are right members, each other than all others.
func someMembers() []api.Member {
	return members("enus us", "enus 001", "a zz", "0 000", "abcdefg 419", "1234567 aa", "a1b2c3d 999", "us us", "419 419", "eu fr", "eu de")
}

// P13.1: right likely rows: S and R may be empty, L may be `und`.
func TestLikely(t *testing.T) {
	for _, x := range someLikely() {
		holdLikely(t, x, true)
		for _, at := range []int{1, 2} {
			y := x
			*likelyTexts(&y)[at] = ""
			holdLikely(t, y, true)
		}
		for _, at := range []int{0, 3, 4, 5} {
			y := x
			*likelyTexts(&y)[at] = ""
			holdLikely(t, y, false)
		}
	}
	holdLikely(t, api.Likely{}, false)
	for _, s := range []string{
		"en - - und latn us", "und - - und latn us", "und - - und - -", "en latn us und latn us", "en - - UND latn us", "en - - Und latn us",
		"e - - en latn us", "abcdefghi - - en latn us", "419 - - en latn us", "en1 - - en latn us", "* - - en latn us", "en * - en latn us", "en - * en latn us", "en - - * latn us", "en - - en * us", "en - - en latn *",
		"en lat - en latn us", "en latin - en latn us", "en lat1 - en latn us", "en 1994 - en latn us", "en us - en latn us", "en - u en latn us", "en - usa en latn us", "en - 41 en latn us", "en - 4190 en latn us", "en - latn en latn us",
		"en - - e latn us", "en - - abcdefghi latn us", "en - - e2 latn us", "en - - en lat us", "en - - en latin us", "en - - en us us", "en - - en latn u", "en - - en latn usa", "en - - en latn 41", "en - - en latn 4190", "en - - en latn 4a9", "en - - en latn a1", "en - - en latn $enus", "en - - en latn !enus",
		"EN - - en latn us", "en Latn - en latn us", "en - US en latn us", "en - - En latn us", "en - - en LATN us", "en - - en latn uS",
	} {
		holdLikely(t, likely(s), false)
	}
}

// P13.1: right rules of each level, by their costs and levels, whichever way they go.
func TestRules(t *testing.T) {
	for _, x := range someRules() {
		for _, oneWay := range []bool{false, true} {
			x.OneWay = oneWay
			for level := -1; level <= 5; level++ {
				y := x
				y.Level = level
				holdRule(t, y, level == x.Level)
			}
			for _, level := range []int{math.MinInt, -x.Level, x.Level - 256, x.Level + 256, 1<<32 + x.Level, math.MinInt + x.Level, math.MaxInt} {
				y := x
				y.Level = level
				holdRule(t, y, false)
			}
			for _, cost := range []int{0, 1, 50, 99, 100} {
				y := x
				y.Cost = cost
				holdRule(t, y, true)
			}
			for _, cost := range []int{-1, -100, 101, 255, 256, 256 + x.Cost, x.Cost - 256, 1<<32 + 1, math.MinInt, math.MinInt + 1, math.MaxInt} {
				y := x
				y.Cost = cost
				holdRule(t, y, false)
			}
		}
	}
	holdRule(t, api.Rule{}, false)
	holdRule(t, api.Rule{Level: 1}, false)
	holdRule(t, api.Rule{Level: 0}, false)
}

// P13.1: as many texts as the level says are there, on both sides, and no more.
func TestLevels(t *testing.T) {
	for level := 1; level <= 3; level++ {
		for mask := range 64 {
			x := api.Rule{Level: level}
			want := true
			for at, text := range ruleTexts(&x) {
				there := mask>>at&1 == 1
				if there {
					*text = []string{"en", "latn", "us"}[at%3]
				}
				want = want && there == (at%3 < level)
			}
			holdRule(t, x, want)
			for _, text := range ruleTexts(&x) {
				if *text != "" {
					*text = "*"
				}
			}
			holdRule(t, x, want)
		}
	}
}

// P13.1: `*`, `$` and `!`, with a name and without, at each place.
func TestSigns(t *testing.T) {
	for _, s := range []string{"*", "$", "!", "$a", "!a", "$enus", "!enus", "$1234567", "!abcdefg", "$us", "!419", "$12345678", "!abcdefgh", "$$", "!!", "$!", "!$", "$*", "!*", "*$", "*!", "**", "*a", "a*", "en*", "enus$", "$En", "!US", "$a-b", "$é", "!\xff", "$ ", "$a ", "$a!", "!a$b", "#enus", "%enus", "enus", "?"} {
		for level := 1; level <= 3; level++ {
			for at := range 6 {
				x := api.Rule{Level: level}
				for place, text := range ruleTexts(&x) {
					if place%3 < level {
						*text = []string{"en", "latn", "us"}[place%3]
					}
				}
				*ruleTexts(&x)[at] = s
				holdRule(t, x, rightRuleAgain(x))
				named := len(s) > 1 && len(s) <= 8 && (s[0] == '$' || s[0] == '!') && name.MatchString(s[1:])
				if named && (at%3 == 2 && level == 3) != image.RightRule(x) {
					t.Errorf("RightRule with %q at %d of level %d: %v", s, at, level, image.RightRule(x))
				}
			}
		}
	}
}

// P13.1: right members, by their sets' names and by their regions.
func TestMembers(t *testing.T) {
	for _, x := range someMembers() {
		holdMember(t, x, true)
		for _, s := range []string{"", "abcdefgh", "12345678", "Enus", "enuS", "$enus", "!enus", "*", "a-b", "a_b", "é", "\xff", "a\xff", "a ", "a\x00", "\x00", " "} {
			holdMember(t, api.Member{Set: s, Region: x.Region}, false)
		}
		for _, s := range []string{"", "u", "usa", "41", "4190", "a1", "1a", "4a9", "US", "uS", "latn", "*", "$enus", "!enus", "é", "\xff\xff", "us ", "us\x00"} {
			holdMember(t, api.Member{Set: x.Set, Region: s}, false)
		}
	}
	holdMember(t, api.Member{}, false)
	for size := range 12 {
		for _, s := range []string{"abcdefghijkl", "012345678901", "a1b2c3d4e5f6", "0z9y8x7w6v5u"} {
			holdMember(t, api.Member{Set: s[:size], Region: "us"}, 1 <= size && size <= 7)
			holdRule(t, rule(3, 0, false, "* * $"+s[:size]+" * * !"+s[:size]), 1 <= size && size <= 7)
		}
	}
}

// tried are texts of all sizes around the edges, in small and great letters, and such as no text may be.
func tried() []string {
	all := []string{"", "und", "und-", "us", "latn", "sr", "000", "419", "4a9", "1994", "*", "$", "!", "$enus", "!enus", "*a", "a*", "a-b", "é", "É", "ab\x00", "\x00\x00", "\x00", "ab\n", "\xff\xff", "abé", "\u212a\u212a", "٣٣", "  ", "en us"}
	for size := 1; size <= 10; size++ {
		letters, digits := "abcdefghij"[:size], "0123456789"[:size]
		all = append(all, letters, digits, strings.ToUpper(letters), letters[:size-1]+"A", "Z"+letters[1:], letters[:size-1]+"7", digits[:size-1]+"z", letters[:size-1]+"-", digits[:size-1]+"\x80", "$"+letters, "!"+digits, "$"+strings.ToUpper(letters))
	}
	return all
}

// P13.1: each of these texts, at each place of things that are right but for it.
func TestAll(t *testing.T) {
	for _, s := range tried() {
		for _, x := range someLikely() {
			for at := range 6 {
				y := x
				*likelyTexts(&y)[at] = s
				holdLikely(t, y, rightLikelyAgain(y))
			}
		}
		for _, x := range someRules() {
			for at := range 6 {
				y := x
				*ruleTexts(&y)[at] = s
				holdRule(t, y, rightRuleAgain(y))
			}
		}
		for _, x := range someMembers() {
			y, z := api.Member{Set: s, Region: x.Region}, api.Member{Set: x.Set, Region: s}
			holdMember(t, y, rightMemberAgain(y))
			holdMember(t, z, rightMemberAgain(z))
		}
	}
}

// P13.1: each byte, at each place of each text.
func TestBytesOfTexts(t *testing.T) {
	changes := func(s string, hold func(string)) {
		for i := range len(s) {
			for b := range 256 {
				hold(s[:i] + string([]byte{byte(b)}) + s[i+1:])
				hold(s[:i] + string([]byte{byte(b)}) + s[i:])
			}
		}
	}
	x, y, z := likely("sr latn me undx cyrl 419"), rule(3, 5, true, "zh hant $a1b * * !abcdefg"), api.Member{Set: "eu1", Region: "419"}
	for at, text := range likelyTexts(&x) {
		changes(*text, func(s string) {
			one := x
			*likelyTexts(&one)[at] = s
			holdLikely(t, one, rightLikelyAgain(one))
		})
	}
	for at, text := range ruleTexts(&y) {
		changes(*text, func(s string) {
			one := y
			*ruleTexts(&one)[at] = s
			holdRule(t, one, rightRuleAgain(one))
		})
	}
	changes(z.Set, func(s string) {
		one := api.Member{Set: s, Region: z.Region}
		holdMember(t, one, rightMemberAgain(one))
	})
	changes(z.Region, func(s string) {
		one := api.Member{Set: z.Set, Region: s}
		holdMember(t, one, rightMemberAgain(one))
	})
}

// P1, R5: texts of many bytes are answered, too.
func TestLong(t *testing.T) {
	for _, long := range []string{strings.Repeat("a", 1<<20), strings.Repeat("A", 1<<20), strings.Repeat("\x00", 1<<20), "$" + strings.Repeat("1", 1<<20), fmt.Sprint("us", strings.Repeat("\x00", 1<<8))} {
		for at := range 6 {
			x, y := likely("en latn us en latn us"), rule(3, 5, true, "en latn us en latn us")
			*likelyTexts(&x)[at], *ruleTexts(&y)[at] = long, long
			holdLikely(t, x, false)
			holdRule(t, y, false)
		}
		holdMember(t, api.Member{Set: long, Region: "us"}, false)
		holdMember(t, api.Member{Set: "eu", Region: long}, false)
	}
}
