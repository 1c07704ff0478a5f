package image

import (
	"isogloss/api"
	"isogloss/ascii"
	"isogloss/tag"
)

const (
	// levels is how many levels, and so places, rules have.
	levels = 3
	// mostName is how many bytes a set's name has at most.
	mostName = 7
	// unknown is what no tag most likely is.
	unknown = "und"
	// whatever is what a rule has at a place where all fits.
	whatever = "*"
	// inSet and notInSet are what stands ahead of a set's name.
	inSet, notInSet = '$', '!'
)

// RightLikely tells whether a likely row may be.
func RightLikely(x api.Likely) bool {
	for _, text := range likelyTexts(&x) {
		if !inSmall(*text) {
			return false
		}
	}
	return tag.Language(x.L) && (x.S == "" || tag.Script(x.S)) && (x.R == "" || tag.Region(x.R)) &&
		tag.Language(x.ToL) && x.ToL != unknown && tag.Script(x.ToS) && tag.Region(x.ToR)
}

// RightRule tells whether a rule may be.
func RightRule(x api.Rule) bool {
	return 1 <= x.Level && x.Level <= levels && 0 <= x.Cost && x.Cost <= api.MaxCost &&
		rightSide(x.D, x.Level) && rightSide(x.S, x.Level)
}

// RightMember tells whether a region of a set may be.
func RightMember(x api.Member) bool {
	return setName(x.Set) && tag.Region(x.Region) && inSmall(x.Region)
}

// rightSide tells whether the texts of one side of a rule may be, at a level.
func rightSide(side [levels]string, level int) bool {
	fits := [...]func(string) bool{tag.Language, tag.Script, place}
	for at, text := range side {
		if at >= level {
			if text != "" {
				return false
			}
			continue
		}
		if text != whatever && !(fits[at](text) && inSmall(text)) {
			return false
		}
	}
	return true
}

// place tells whether a text is a region, or is of those in a set, or of those not in it.
func place(s string) bool {
	if s != "" && (s[0] == inSet || s[0] == notInSet) {
		return setName(s[1:])
	}
	return tag.Region(s)
}

// setName tells whether a text may be a set's name.
func setName(s string) bool {
	return len(s) <= mostName && ascii.Alnum(s) && inSmall(s)
}

// inSmall tells whether a text is in small letters.
func inSmall(s string) bool { return s == ascii.Lower(s) }
