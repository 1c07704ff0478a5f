package check_test

import (
	"slices"
	"strings"
	"testing"

	"isogloss/api"
	"isogloss/check"
	"isogloss/fault"
	"isogloss/image"
)

// P14.1: images that may be used: with things of all kinds, in whatever order, and with as little as can be.
func TestUsable(t *testing.T) {
	holdRight(t, usable())
	holdRight(t, api.Image{Rules: open()})
	im := usable()
	slices.Reverse(im.Aliases)
	slices.Reverse(im.Likely)
	slices.Reverse(im.Rules)
	slices.Reverse(im.Members)
	holdRight(t, im)
	for range im.Aliases {
		im.Aliases = append(im.Aliases[1:], im.Aliases[0])
		holdRight(t, im)
	}
	for range im.Rules {
		im.Rules = append(im.Rules[1:], im.Rules[0])
		holdRight(t, im)
	}
	for at := range usable().Aliases {
		im := usable()
		im.Aliases = im.Aliases[at : at+1]
		holdRight(t, im)
		im.Likely, im.Rules, im.Members = nil, open(), nil
		holdRight(t, im)
	}
}

// P14.1: the chapter's example; the zero image.
func TestExample(t *testing.T) {
	holdWrong(t, api.Image{Aliases: aliases("lang iw - he", "lang he - iw")}, api.ErrLoop, 0, "alias")
	holdWrong(t, api.Image{Aliases: aliases("lang iw - he", "lang he - iw"), Rules: open()}, api.ErrLoop, 0, "alias")
	holdWrong(t, api.Image{}, api.ErrNone, 0, "rule")
	holdWrong(t, api.Image{Aliases: []api.Alias{}, Likely: []api.Likely{}, Rules: []api.Rule{}, Members: []api.Member{}}, api.ErrNone, 0, "rule")
}

// holdLoop holds that one alias may be there with a second one, or may not as its target is what that one is of, wherever the two stand.
func holdLoop(t *testing.T, one, second string, right bool) {
	t.Helper()
	alone := with(usable(), one)
	holdRight(t, alone)
	size := len(usable().Aliases)
	for at := range size + 1 {
		for _, behind := range []int{0, at, at + 1, size + 1} {
			im := usable()
			im.Aliases = slices.Insert(im.Aliases, at, alias(one))
			im.Aliases = slices.Insert(im.Aliases, behind, alias(second))
			if right {
				holdRight(t, im)
				continue
			}
			place := at
			if behind <= at {
				place++
			}
			holdWrong(t, im, api.ErrLoop, place, "alias")
		}
	}
}

// P14.1: each target of each kind of alias, final and not.
func TestTargets(t *testing.T) {
	for _, x := range []struct {
		one, second string
		right       bool
	}{
		{"grand 00 - abc", "lang abc - xyz", false}, {"grand 00 - abc", "pair abc xx xyz", false}, {"grand 00 - abc goth zw", "lang abc - xyz", false}, {"grand 00 - abc goth zw", "pair abc zw xyz", false},
		{"grand 00 - abc goth zw", "script goth - - xyzz", false}, {"grand 00 - abc goth zw", "region zw - - - xy", false}, {"grand 00 - abc goth", "script goth - - xyzz", false}, {"grand 00 - abc - zw", "region zw - - - xy", false},
		{"grand 00 - abc", "script goth - - xyzz", true}, {"grand 00 - abc", "region zw - - - xy", true}, {"grand 00 - abc - zw", "script goth - - xyzz", true}, {"grand 00 - abc goth", "region zw - - - xy", true},
		{"pair xx yy abc", "lang abc - xyz", false}, {"pair xx yy abc", "pair abc zz xyz", false}, {"pair xx yy abc", "pair abc yy xyz", false},
		{"pair xx yy abc", "region yy - - - zz", true}, {"pair xx yy abc", "region xx - - - zz", true}, {"pair xx yy abc", "lang xx - xyz", true}, {"pair xx yy abc", "pair xx zz xyz", true}, {"pair xx yy abc", "lang yy - xyz", true},
		{"lang xx - abc", "lang abc - xyz", false}, {"lang xx - abc", "pair abc xx xyz", false}, {"lang xx - abc goth zw", "lang abc - xyz", false}, {"lang xx - abc goth zw", "pair abc us xyz", false},
		{"lang xx - abc goth zw", "script goth - - xyzz", false}, {"lang xx - abc goth zw", "region zw - - - xy", false}, {"lang xx - abc goth", "script goth - - xyzz", false}, {"lang xx - abc - 001", "region 001 - - - xy", false},
		{"lang xx - abc", "script goth - - xyzz", true}, {"lang xx - abc", "region zw - - - xy", true}, {"lang xx - abc - zw", "script goth - - xyzz", true}, {"lang xx - abc goth", "region zw - - - xy", true},
		{"script goth - - xyzz", "script xyzz - - latn", false}, {"script goth - - xyzz", "script thai - - cyrl", true},
		{"region xx - - - yy", "region yy - - - zz", false}, {"region xx - - - 150", "region 150 - - - zz", false}, {"region xx - - - yy", "region zz - - - ww", true},
		{"variant 1994 - alalc00", "variant alalc00 - xyzzy", false}, {"variant 1994 - alalc00", "variant alalc00", false}, {"variant 1994", "variant alalc00", true}, {"variant 1994", "variant alalc00 - xyzzy", true}, {"variant 1994 - alalc00", "variant fonipa - xyzzy", true}, {"variant 1994 - alalc00", "variant fonipa - alalc00", true},
		{"type ca aaa bbb", "type ca bbb ccc", false}, {"type ca aaa bbb", "type co bbb ccc", true}, {"type ca aaa bbb", "type ca ccc bbb", true}, {"type ca aaa bbb", "type co bbb aaa", true}, {"type a1 aaa bbb", "type 1a bbb ccc", true}, {"type a1 aaa bbb", "type a1 bbb ccc", false},
		// What is of another kind by the same text is no matter.
		{"lang xx - goth", "script goth - - xyzz", true}, {"lang xx - zw", "region zw - - - zz", true}, {"lang xx - alalcxx", "variant alalcxx", true}, {"lang xx - bbb", "type ca bbb ccc", true}, {"lang xx - yy", "pair zz yy ww", true}, {"lang xx - abc goth", "lang goth - xyz", true}, {"lang xx - abc - zw", "lang zw - xyz", true}, {"lang xx - abc - zw", "pair xyz zw zyx", true},
		{"grand 00 - goth", "script goth - - xyzz", true}, {"pair xx yy zw", "region zw - - - zz", true}, {"script goth - - thai", "lang thai - xyz", true}, {"region xx - - - yy", "lang yy - zz", true}, {"region xx - - - yy", "pair yy xx zz", true}, {"region xx - - - yy", "pair zz yy ww", true}, {"variant 1994 - alalcxx", "lang alalcxx - xx", true}, {"variant 1994 - abcde", "type ca abcde xyz", true}, {"type ca aaa bbb", "lang bbb - ccc", true}, {"type ca aaa ca1", "type co ca1 xyz", true}, {"type ca aaa abcde", "variant abcde", true}, {"type ca aaa bbb", "type bb bbb ccc", true},
	} {
		holdLoop(t, x.one, x.second, x.right)
	}
}

// P14.1: aliases that lead to themselves, and rings of them, of whatever length: the first is told.
func TestLoops(t *testing.T) {
	size := len(usable().Aliases)
	for _, ring := range [][]string{
		{"lang aa - aa"}, {"pair aa bb aa"}, {"script aaaa - - aaaa"}, {"region aa - - - aa"}, {"variant 1994 - 1994"}, {"type ca aaa aaa"}, {"lang aa - aa latn us"},
		{"lang aa - bb", "lang bb - aa"}, {"pair aa xx bb", "pair bb xx aa"}, {"pair aa xx bb", "lang bb - aa"}, {"lang aa - bb", "pair bb yy aa"}, {"script aaaa - - bbbb", "script bbbb - - aaaa"}, {"region aa - - - bb", "region bb - - - aa"}, {"variant 1994 - 1995", "variant 1995 - 1994"}, {"type ca aaa bbb", "type ca bbb aaa"},
		{"lang aa - bb", "lang bb - cc", "lang cc - aa"}, {"region aa - - - bb", "region bb - - - cc", "region cc - - - aa"}, {"type ca aaa bbb", "type ca bbb ccc", "type ca ccc aaa"}, {"lang aa - bb", "pair bb xx cc", "lang cc - aa"},
		{"grand 00 - aa", "lang aa - bb"},
	} {
		for range ring {
			if hold(t, with(usable(), ring...)) {
				t.Errorf("an image with %q may be used", ring)
			}
			for at := range size {
				im := usable()
				im.Aliases = slices.Insert(im.Aliases, at, aliases(ring...)...)
				hold(t, im)
			}
			ring = append(ring[1:], ring[0])
		}
	}
	// What is there already leads there, too.
	holdWrong(t, with(usable(), "lang aa - he", "lang he - bb"), api.ErrLoop, 5, "alias")
}

// P14.1: an alias leads to what a later, and an earlier, one is of; what is told is the alias that leads there.
func TestChains(t *testing.T) {
	rules := open()
	holdWrong(t, api.Image{Rules: rules, Aliases: aliases("lang aa - bb", "lang bb - cc")}, api.ErrLoop, 0, "alias")
	holdWrong(t, api.Image{Rules: rules, Aliases: aliases("lang bb - cc", "lang aa - bb")}, api.ErrLoop, 1, "alias")
	holdWrong(t, api.Image{Rules: rules, Aliases: aliases("lang bb - cc", "region us - - - gb", "lang aa - xx - us")}, api.ErrLoop, 2, "alias")
	holdWrong(t, api.Image{Rules: rules, Aliases: aliases("lang bb - cc", "lang cc - dd", "lang aa - bb")}, api.ErrLoop, 0, "alias")
	holdWrong(t, api.Image{Rules: rules, Aliases: aliases("grand 18 - sgn", "pair sgn br bzs")}, api.ErrLoop, 0, "alias")
	holdWrong(t, api.Image{Rules: rules, Aliases: aliases("pair sgn br bzs", "lang ase - sgn")}, api.ErrLoop, 1, "alias")
	holdWrong(t, api.Image{Rules: rules, Aliases: aliases("pair sgn br bzs", "lang sgn - xx", "lang ase - sgn")}, api.ErrLoop, 2, "alias")
	holdWrong(t, api.Image{Rules: rules, Aliases: aliases("type ca aaa bbb", "variant 1994 - 1995", "type ca bbb ccc", "variant 1995")}, api.ErrLoop, 0, "alias")
	holdRight(t, api.Image{Rules: rules, Aliases: aliases("lang aa - cc", "lang bb - cc", "pair dd xx cc", "pair dd yy cc", "lang dd - cc")})
	// What is told is the place in the row that is handed over, not in the one that is in order.
	im := with(usable(), "lang aa - iw")
	slices.Reverse(im.Aliases)
	holdWrong(t, im, api.ErrLoop, 0, "alias")
	s, _ := image.Encode(im)
	_, e := check.Load(s)
	holdFault(t, e, api.ErrLoop, 4, "alias")
}

// P14.1: where each likely row's ToL has a row without S and R; the first that has none is told.
func TestLikely(t *testing.T) {
	for _, x := range []struct {
		rows  string
		place int
	}{
		{"", -1}, {"en - - en latn us", -1}, {"und - - en latn us, en - - en latn us", -1}, {"en - - en latn us, und - - en latn us", -1}, {"en - - de latn de, de - - en latn us", -1},
		{"und - - en latn us", 0}, {"und - - en latn us, en latn - en latn us", 0}, {"und - - en latn us, en - us en latn us", 0}, {"und - - en latn us, en latn us en latn us", 0}, {"und - - en latn us, en latn - en latn us, en - us en latn us, en latn us en latn us", 0},
		{"en latn - en latn us", 0}, {"en - us en latn us", 0}, {"en latn us en latn us", 0}, {"en - - de latn de", 0}, {"en - - en latn us, de - us en latn us, fr - us de latn us", 2},
		{"en - - en latn us, und - - de latn de", 1}, {"en - - en latn us, und - - de latn de, zh - - zh hans cn", 1}, {"en - - en latn us, zh - - zh hans cn, und - - de latn de", 2}, {"en - - en latn us, en - us en latn us, en latn - en latn us, en latn us de latn de, und - - fr latn fr", 3},
		{"en - - en latn us, de - - en latn us, zh - - en latn us, und - - zh hant tw", -1},
		// A language is none of those that begin as it does.
		{"eng - - eng latn us, und - - en latn us", 1}, {"en - - en latn us, und - - eng latn us", 1}, {"en - - en latn us, latn - - en latn us, us - - en latn us", -1}, {"und - - latn latn us, en latn us en latn us", 0},
	} {
		im := usable()
		im.Likely = nil
		if x.rows != "" {
			im.Likely = each(strings.Split(x.rows, ","), likely)
		}
		if x.place < 0 {
			holdRight(t, im)
			continue
		}
		holdWrong(t, im, api.ErrNone, x.place, "likely")
	}
	for at := range usable().Likely {
		im := usable()
		im.Likely = slices.Insert(im.Likely, at, likely("de - de de latn de"))
		holdWrong(t, im, api.ErrNone, at, "likely")
		im.Likely = append(im.Likely, likely("de - - de latn de"))
		holdRight(t, im)
		im.Likely = append(im.Likely[:at:at], im.Likely[at+1:]...)
		holdRight(t, im)
	}
	// What a likely row leads to may be called otherwise.
	holdRight(t, api.Image{Aliases: aliases("lang en - xx", "pair zh cn xx", "script latn - - xxxx", "region cn - - - xx"), Likely: usable().Likely, Rules: open()})
}

// P14.1: rules with sets, that have members or not; the first rule that names one that has none is told.
func TestSets(t *testing.T) {
	size := len(usable().Rules)
	for _, s := range []string{"en * $eu en * fr", "en * fr en * $eu", "en * !eu en * fr", "en * fr en * !eu", "en * $eu en * $eu", "en * !eu en * $eu", "en * $enus en * $eu", "en * $eu en * !enus", "* * $eu * * $eu", "en latn !eu * * *", "* * * * * !eu"} {
		for at := range size + 1 {
			im := usable()
			im.Rules = slices.Insert(im.Rules, at, rule(s))
			holdWrong(t, im, api.ErrNone, at, "rule")
			for _, other := range []string{"e us", "eur us", "us eu", "enu us", "eu0 us", "0 001"} {
				im.Members = append(usable().Members, member(other))
				holdWrong(t, im, api.ErrNone, at, "rule")
			}
			for place := range usable().Members {
				im.Members = slices.Insert(usable().Members, place, member("eu fr"))
				holdRight(t, im)
			}
			im.Members = append(usable().Members, member("eu fr"), member("eu de"), member("eu us"))
			holdRight(t, im)
		}
	}
	im := usable()
	im.Members = nil
	holdWrong(t, im, api.ErrNone, 2, "rule")
	im.Members = each([]string{"amer us"}, member)
	holdWrong(t, im, api.ErrNone, 2, "rule")
	im.Members = each([]string{"enus us"}, member)
	holdWrong(t, im, api.ErrNone, 4, "rule")
	im.Rules = im.Rules[3:]
	holdWrong(t, im, api.ErrNone, 1, "rule")
	// A region that is no set's name, and sets that no rule names.
	im.Members = each([]string{"enus us", "amer us", "us us", "zz zz"}, member)
	im.Rules = append(im.Rules, each([]string{"en * us en * zz", "en * 001 en * *", "us * * zz * 419"}, rule)...)
	holdRight(t, im)
	im.Members = im.Members[:2]
	holdRight(t, im)
	im.Rules = append(im.Rules, rule("en * us en * $zz"))
	holdWrong(t, im, api.ErrNone, len(im.Rules)-1, "rule")
}

// P14.1: the rules that must be there, one a level, with `*` at all places.
func TestLevels(t *testing.T) {
	near := [3][]string{{"en *", "* en", "en en"}, {"en * * *", "* latn * *", "* * en *", "* * * latn", "* * en latn", "en latn * *", "en latn en latn"}, {"en * * * * *", "* latn * * * *", "* * us * * *", "* * * en * *", "* * * * latn *", "* * * * * us", "* * * en latn us", "en latn us * * *", "* * $enus * * *", "* * * * * !enus", "* * $enus * * $enus"}}
	for level := range 3 {
		im := usable()
		im.Rules = slices.Delete(open(), level, level+1)
		holdWrong(t, im, api.ErrNone, 2, "rule")
		for _, s := range near[level] {
			for at := range 3 {
				im.Rules = slices.Insert(slices.Delete(open(), level, level+1), at, rule(s))
				holdWrong(t, im, api.ErrNone, 3, "rule")
				im.Rules = append(im.Rules, open()...)
				holdRight(t, im)
			}
		}
		im.Rules = slices.Delete(open(), level, level+1)
		for _, s := range near[level] {
			im.Rules = append(im.Rules, rule(s))
		}
		holdWrong(t, im, api.ErrNone, len(im.Rules), "rule")
		// Whatever it costs, and in which way it goes, is no matter.
		x := open()[level]
		x.Cost, x.OneWay = 100, true
		im.Rules = append(im.Rules, x)
		holdRight(t, im)
		x.Cost = 0
		im.Rules = slices.Insert(im.Rules, 0, x)
		holdRight(t, im)
		im.Rules = open()[level : level+1]
		holdWrong(t, im, api.ErrNone, 1, "rule")
		im.Rules = slices.Delete(usable().Rules, len(usable().Rules)-3+level, len(usable().Rules)-2+level)
		holdWrong(t, im, api.ErrNone, len(usable().Rules)-1, "rule")
	}
	im := usable()
	im.Rules = nil
	holdWrong(t, im, api.ErrNone, 0, "rule")
	im.Rules = im.Rules[:0]
	holdWrong(t, im, api.ErrNone, 0, "rule")
	im.Rules = each([]string{"en *"}, rule)
	holdWrong(t, im, api.ErrNone, 1, "rule")
}

// P14.1: what image.Encode tells is told, ahead of all else.
func TestEncodes(t *testing.T) {
	bad := with(usable(), "lang aa - aa")
	bad.Likely = append(bad.Likely, likely("und zzzz - aa zzzz zz"))
	bad.Rules = each([]string{"en * $eu en * $eu"}, rule)
	holdWrong(t, bad, api.ErrLoop, len(bad.Aliases)-1, "alias")
	for _, base := range []api.Image{usable(), bad} {
		for _, x := range []struct {
			spoil func(im *api.Image)
			kind  api.Errno
			place int
			what  string
		}{
			{func(im *api.Image) { im.Aliases = make([]api.Alias, 4001) }, api.ErrMany, 0, "image"},
			{func(im *api.Image) { im.Likely = make([]api.Likely, 4001) }, api.ErrMany, 0, "image"},
			{func(im *api.Image) { im.Rules = make([]api.Rule, 4001) }, api.ErrMany, 0, "image"},
			{func(im *api.Image) { im.Members = make([]api.Member, 4001) }, api.ErrMany, 0, "image"},
			{func(im *api.Image) { im.Threshold = -1 }, api.ErrArg, 0, "image"},
			{func(im *api.Image) { im.Threshold = 256 }, api.ErrArg, 0, "image"},
			{func(im *api.Image) { im.Demote = -1 }, api.ErrArg, 0, "image"},
			{func(im *api.Image) { im.Demote = 256 }, api.ErrArg, 0, "image"},
			{func(im *api.Image) { im.Aliases[3].A = "SGN" }, api.ErrForm, 3, "alias"},
			{func(im *api.Image) { im.Aliases[0].Kind = 8 }, api.ErrForm, 0, "alias"},
			{func(im *api.Image) { im.Aliases = append(im.Aliases, api.Alias{}) }, api.ErrForm, len(base.Aliases), "alias"},
			{func(im *api.Image) { im.Likely[2].ToL = "und" }, api.ErrForm, 2, "likely"},
			{func(im *api.Image) { im.Likely[1].ToS = "" }, api.ErrForm, 1, "likely"},
			{func(im *api.Image) { im.Rules[0].D[2] = "$" }, api.ErrForm, 0, "rule"},
			{func(im *api.Image) { im.Rules = append(im.Rules, api.Rule{}) }, api.ErrForm, len(base.Rules), "rule"},
			{func(im *api.Image) { im.Rules[0].Cost = 101 }, api.ErrForm, 0, "rule"},
			{func(im *api.Image) { im.Members[2].Region = "USA" }, api.ErrForm, 2, "member"},
			{func(im *api.Image) { im.Members[1].Set = "$enus" }, api.ErrForm, 1, "member"},
			{func(im *api.Image) { im.Aliases = append(im.Aliases, im.Aliases[5]) }, api.ErrOrder, 0, "alias"},
			{func(im *api.Image) { im.Likely = append(im.Likely, im.Likely[4]) }, api.ErrOrder, 0, "likely"},
			{func(im *api.Image) { im.Members = append(im.Members, im.Members[1]) }, api.ErrOrder, 0, "member"},
		} {
			im := copied(base)
			x.spoil(&im)
			holdWrong(t, im, x.kind, x.place, x.what)
			_, e := image.Encode(im)
			if got := check.Check(im); got.Error() != e.Error() {
				t.Errorf("%v, want %v", got, e)
			}
		}
	}
	// Nothing else but what is wrong.
	holdWrong(t, api.Image{Threshold: -1}, api.ErrArg, 0, "image")
	holdWrong(t, api.Image{Aliases: []api.Alias{{}}}, api.ErrForm, 0, "alias")
	holdWrong(t, api.Image{Members: []api.Member{{}}}, api.ErrForm, 0, "member")
	holdWrong(t, api.Image{Members: each([]string{"eu fr", "eu fr"}, member)}, api.ErrOrder, 0, "member")
}

// P14.1, R2: of several errors the first that the promise names, and of its rows the first.
func TestSeveral(t *testing.T) {
	im := usable()
	size := len(im.Rules)
	im.Rules = im.Rules[:size-1]
	holdWrong(t, im, api.ErrNone, size-1, "rule")
	im.Rules = append(im.Rules, rule("en * !zz en * *"), rule("en * * en * $zz"))
	holdWrong(t, im, api.ErrNone, size-1, "rule")
	im.Rules[2].D[2] = "$yy"
	holdWrong(t, im, api.ErrNone, 2, "rule")
	im.Likely = append(im.Likely, likely("fr - - de latn de"), likely("it - - de latn de"))
	holdWrong(t, im, api.ErrNone, len(im.Likely)-2, "likely")
	im.Likely[3] = likely("es - - it latn it")
	im.Likely[5] = likely("la - - lb latn it")
	holdWrong(t, im, api.ErrNone, 5, "likely")
	im = with(im, "lang aa - aa", "type ca aaa aaa")
	holdWrong(t, im, api.ErrLoop, len(im.Aliases)-2, "alias")
	im.Aliases[4].L = "aa"
	holdWrong(t, im, api.ErrLoop, 4, "alias")
	im.Aliases[1].L = "aa"
	holdWrong(t, im, api.ErrLoop, 1, "alias")
	im.Members = append(im.Members, member("zz zz"), member("zz zz"))
	holdWrong(t, im, api.ErrOrder, 0, "member")
	im.Rules[0].Level = 0
	holdWrong(t, im, api.ErrForm, 0, "rule")
	im.Demote = 256
	holdWrong(t, im, api.ErrArg, 0, "image")
}

// subset is the things of a row whose bit is in a number.
func subset[T any](row []T, bits int) []T {
	var some []T
	for at, x := range row {
		if bits>>at&1 == 1 {
			some = append(some, x)
		}
	}
	return some
}

// P14.1: all sets of some aliases, of some likely rows, of some rules and members, forth and back.
func TestSubsets(t *testing.T) {
	right := 0
	try := func(im api.Image) {
		if hold(t, im) {
			right++
		}
		slices.Reverse(im.Aliases)
		slices.Reverse(im.Likely)
		slices.Reverse(im.Rules)
		hold(t, im)
	}
	some := aliases("grand 18 - aa latn us", "pair bb us aa", "lang cc - bb", "lang aa - dd - su", "script latn - - aaaa", "region su - - - us", "region us - - - gb", "variant 1994 - 1995", "variant 1995", "type ca aaa bbb", "type ca bbb ccc")
	for bits := range 1 << len(some) {
		im := usable()
		im.Aliases = subset(some, bits)
		try(im)
	}
	rows := each([]string{"und - - en latn us", "en - - en latn us", "en latn - de latn de", "de - de de latn de", "de - - en latn us", "fr latn fr fr latn fr", "fr - - de latn de"}, likely)
	for bits := range 1 << len(rows) {
		im := usable()
		im.Likely = subset(rows, bits)
		try(im)
	}
	rules := each([]string{"* * * * * *", "en * $eu en * !us", "* *", "* * !us * * *", "* * * *", "* * * * * $eu", "* latn * *"}, rule)
	members := each([]string{"us us", "eu us", "fr eu"}, member)
	for bits := range 1 << len(rules) {
		for others := range 1 << len(members) {
			im := usable()
			im.Rules, im.Members = subset(rules, bits), subset(members, others)
			try(im)
		}
	}
	if right < 200 {
		t.Errorf("%d of these may be used", right)
	}
}

// letters is a number as three letters.
func letters(n int) string {
	return string([]byte{byte('a' + n/676%26), byte('a' + n/26%26), byte('a' + n%26)})
}

// P14.1: as many things as there may be; what is wrong with the last of them.
func TestMany(t *testing.T) {
	im := api.Image{Rules: open()}
	for i := range 4000 {
		im.Aliases = append(im.Aliases, api.Alias{Kind: api.AliasLang, A: letters(i), L: "en"})
		im.Likely = append(im.Likely, api.Likely{L: letters(i), ToL: letters(i * 7 % 4000), ToS: "latn", ToR: "us"})
		im.Members = append(im.Members, api.Member{Set: letters(i), Region: "us"})
		if i < 3997 {
			im.Rules = append(im.Rules, rule("en * $"+letters(i)+" en * !"+letters(i+3)))
		}
	}
	holdRight(t, im)
	im.Rules[3999].S[2] = "$zz"
	holdWrong(t, im, api.ErrNone, 3999, "rule")
	im.Rules = slices.Repeat(open()[:2], 2000)
	holdWrong(t, im, api.ErrNone, 4000, "rule")
	im.Likely[3999].ToL = "zzz"
	holdWrong(t, im, api.ErrNone, 3999, "likely")
	im.Aliases[3999].L = letters(0)
	holdWrong(t, im, api.ErrLoop, 3999, "alias")
}

// P14.1: errors are faults, which tell no more than what is wrong.
func TestFaults(t *testing.T) {
	for _, x := range []struct {
		im   api.Image
		want string
	}{
		{api.Image{}, "rule at 0: isogloss: error 15"},
		{api.Image{Aliases: aliases("lang iw - he", "lang he - iw")}, "alias at 0: isogloss: error 14"},
		{api.Image{Likely: each([]string{"und - - en latn us"}, likely)}, "likely at 0: isogloss: error 15"},
		{api.Image{Demote: -1}, "image at 0: isogloss: error 1"},
	} {
		if e := check.Check(x.im); e == nil || e.Error() != x.want || !fault.Has(e, fault.Kind(e)) {
			t.Errorf("Check(%v): %v, want %s", x.im, e, x.want)
		}
	}
}
