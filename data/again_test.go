package data_test

import (
	"slices"
	"strconv"
	"strings"
	"testing"

	"isogloss/api"
)

// aliasLines are the chapter's aliases: kind: A, B to L, S, R.
var aliasLines = []string{
	"Grand: 18 to sfb", "Grand: 19 to vgt", "Grand: 20 to sgg", "Grand: 03 to ami", "Grand: 08 to tlh", "Grand: 09 to lb",
	"Grand: 11 to nv", "Grand: 12 to pwn", "Grand: 13 to tao", "Grand: 14 to tay", "Grand: 15 to tsu", "Grand: 16 to nb",
	"Grand: 17 to nn", "Grand: 00 to jbo", "Grand: 22 to hak", "Grand: 24 to nan", "Grand: 25 to hsn", "Grand: 07 to hak",
	"Grand: 04 to bnn", "Pair: sgn br to bzs", "Pair: sgn us to ase", "Pair: sgn gb to bfi", "Pair: sgn de to gsg", "Lang: iw to he",
	"Lang: in to id", "Lang: ji to yi", "Lang: mo to ro", "Lang: no to nb", "Lang: tl to fil", "Lang: sh to sr latn",
	"Lang: cmn to zh", "Lang: cnr to sr me", "Lang: eng to en", "Lang: deu to de", "Lang: fra to fr", "Script: qaai to zinh",
	"Region: dd to de", "Region: su to ru", "Region: bu to mm", "Region: fx to fr", "Region: 840 to us", "Region: 276 to de",
	"Region: 826 to gb", "Region: 156 to cn", "Region: tp to tl", "Region: zr to cd", "Region: yu to rs", "Region: cs to rs",
	"Variant: heploc to alalc97", "Variant: polytoni to polyton", "Type: ca islamicc to civil", "Type: ms imperial to uksystem", "Type: co diction to dict", "Type: kb yes to true",
}

// likelyLines are the chapter's likely rows: L, S, R to ToL, ToS, ToR.
var likelyLines = []string{
	"en - - to en latn us", "en shaw - to en shaw gb", "und - - to en latn us", "und - 419 to es latn 419", "de - - to de latn de",
	"fr - - to fr latn fr", "es - - to es latn es", "zh - - to zh hans cn", "zh - tw to zh hant tw", "zh - hk to zh hant hk",
	"zh hant - to zh hant tw", "und hant - to zh hant tw", "und hans - to zh hans cn", "sr - - to sr cyrl rs", "sr latn - to sr latn rs",
	"sr - me to sr latn me", "und cyrl - to ru cyrl ru", "ru - - to ru cyrl ru", "he - - to he hebr il", "und hebr - to he hebr il",
	"ar - - to ar arab eg", "und arab - to ar arab eg", "nb - - to nb latn no", "nn - - to nn latn no", "da - - to da latn dk",
	"pt - - to pt latn br", "hi - - to hi deva in", "hi latn - to hi latn in", "ja - - to ja jpan jp", "id - - to id latn id",
	"fil - - to fil latn ph", "ro - - to ro latn ro",
}

// ruleLines are the chapter's rules: level: cost, and a star, if OneWay: D; S.
var ruleLines = []string{
	"1: 1: nb; no", "1: 4: nb; da", "1: 20: nn; nb",
	"1: 8: nn; da", "1: 30*: id; ms", "1: 80: *; *",
	"2: 15*: zh hans; zh hant", "2: 19*: zh hant; zh hans", "2: 20: sr latn; sr cyrl",
	"2: 50: * *; * *", "3: 3: en * $enus; en * $enus", "3: 3: en * !enus; en * !enus",
	"3: 4: es * $amer; es * $amer", "3: 5: es * !amer; es * $amer", "3: 4: * * *; * * *",
}

// memberLines are the chapter's members: set: regions.
var memberLines = []string{
	"amer: 419, ar, mx, us", "enus: us, pr, gu",
}

// cut are the parts of a text between some marks, each of which is there.
func cut(s string, marks ...string) []string {
	var parts []string
	for _, mark := range marks {
		before, after, ok := strings.Cut(s, mark)
		if !ok {
			panic("no " + mark + " in " + s)
		}
		parts, s = append(parts, before), after
	}
	return append(parts, s)
}

// three are the words of a text, with `-` for an empty one, and empty ones behind them.
func three(s string) [3]string {
	var all [3]string
	for at, word := range strings.Fields(s) {
		if word != "-" {
			all[at] = word
		}
	}
	return all
}

// number is that of a text.
func number(s string) int {
	n, e := strconv.Atoi(s)
	if e != nil {
		panic(e)
	}
	return n
}

// aliasAgain is the alias of a line.
func aliasAgain(line string) api.Alias {
	part := cut(line, ": ", " to ")
	from, to := three(part[1]), three(part[2])
	x := api.Alias{Kind: 1 + slices.Index([]string{"Grand", "Pair", "Lang", "Script", "Region", "Variant", "Type"}, part[0]), A: from[0], B: from[1]}
	switch {
	case part[0] == "Script":
		x.S = to[0]
	case part[0] == "Region":
		x.R = to[0]
	case to[1] == "me":
		x.L, x.R = to[0], to[1]
	default:
		x.L, x.S, x.R = to[0], to[1], to[2]
	}
	return x
}

// likelyAgain is the likely row of a line.
func likelyAgain(line string) api.Likely {
	part := cut(line, " to ")
	from, to := three(part[0]), three(part[1])
	return api.Likely{L: from[0], S: from[1], R: from[2], ToL: to[0], ToS: to[1], ToR: to[2]}
}

// ruleAgain is the rule of a line.
func ruleAgain(line string) api.Rule {
	part := cut(line, ": ", ": ", "; ")
	cost, oneWay := strings.CutSuffix(part[1], "*")
	return api.Rule{Level: number(part[0]), Cost: number(cost), OneWay: oneWay, D: three(part[2]), S: three(part[3])}
}

// membersAgain are the members of a line.
func membersAgain(line string) []api.Member {
	part := cut(line, ": ")
	var all []api.Member
	for _, region := range strings.Split(part[1], ", ") {
		all = append(all, api.Member{Set: part[0], Region: region})
	}
	return all
}

// imageAgain is the chapter's image, once more.
func imageAgain() api.Image {
	im := api.Image{Threshold: 40, Demote: 5}
	for _, line := range aliasLines {
		im.Aliases = append(im.Aliases, aliasAgain(line))
	}
	for _, line := range likelyLines {
		im.Likely = append(im.Likely, likelyAgain(line))
	}
	for _, line := range ruleLines {
		im.Rules = append(im.Rules, ruleAgain(line))
	}
	for _, line := range memberLines {
		im.Members = append(im.Members, membersAgain(line)...)
	}
	return im
}

// holdRow holds a row against another one, thing by thing.
func holdRow[T comparable](t *testing.T, what string, got, want []T) {
	t.Helper()
	if len(got) != len(want) {
		t.Errorf("%d of %s, want %d", len(got), what, len(want))
	}
	for at := range min(len(got), len(want)) {
		if got[at] != want[at] {
			t.Errorf("%s %d: %+v, want %+v", what, at, got[at], want[at])
		}
	}
}

// holdImage holds that an image has the same as another one, in the same order.
func holdImage(t *testing.T, got, want api.Image) {
	t.Helper()
	holdRow(t, "alias", got.Aliases, want.Aliases)
	holdRow(t, "likely", got.Likely, want.Likely)
	holdRow(t, "rule", got.Rules, want.Rules)
	holdRow(t, "member", got.Members, want.Members)
	if got.Threshold != want.Threshold || got.Demote != want.Demote {
		t.Errorf("Threshold %d, Demote %d, want %d, %d", got.Threshold, got.Demote, want.Threshold, want.Demote)
	}
}
