package check

import (
	"slices"

	"isogloss/api"
	"isogloss/fault"
)

const (
	// whatever is what a rule has at a place where all fits.
	whatever = "*"
	// inSet and notInSet are what stands ahead of a set's name.
	inSet, notInSet = '$', '!'
	// place is where in a rule's texts a set may be named.
	place = 2
)

// must is what must hold of things, one by one.
type must struct {
	// kind and what are told where it doesn't.
	kind api.Errno
	what string
	// first is the number of the first of them, count how many there are.
	first, count int
	// holds tells whether it holds of the i-th of them.
	holds func(i int) bool
}

// firstWrong tells the first thing of which the first of the musts that don't hold doesn't.
func firstWrong(all []must) error {
	var wrong error
look:
	for _, m := range all {
		for i := range m.count {
			if !m.holds(i) {
				wrong = fault.New(m.kind, m.first+i, m.what)
				break look
			}
		}
	}
	return wrong
}

// musts are what must hold of an image whose things are all right.
func musts(im api.Image) []must {
	old := oldNames(im.Aliases)
	rows := rowsOf(im.Likely)
	sets := setsOf(im.Members)
	return []must{
		{api.ErrLoop, "alias", 0, len(im.Aliases), func(i int) bool { return old.ends(im.Aliases[i]) }},
		{api.ErrNone, "likely", 0, len(im.Likely), func(i int) bool { return rows[[3]string{im.Likely[i].ToL}] }},
		{api.ErrNone, "rule", 0, len(im.Rules), func(i int) bool {
			return known(sets, im.Rules[i].D[place]) && known(sets, im.Rules[i].S[place])
		}},
		// A rule that is missing has the number that the next one would have.
		{api.ErrNone, "rule", len(im.Rules), 1, func(int) bool { return everyLevel(im.Rules) }},
	}
}

// rowsOf are the L, S and R of which there is a likely row.
func rowsOf(likely []api.Likely) map[[3]string]bool {
	rows := map[[3]string]bool{}
	for _, x := range likely {
		rows[[3]string{x.L, x.S, x.R}] = true
	}
	return rows
}

// setsOf are the sets that have a member.
func setsOf(members []api.Member) map[string]bool {
	sets := map[string]bool{}
	for _, x := range members {
		sets[x.Set] = true
	}
	return sets
}

// known tells whether a rule's text names no set but one of these.
func known(sets map[string]bool, text string) bool {
	if text == "" || text[0] != inSet && text[0] != notInSet {
		return true
	}
	return sets[text[1:]]
}

// everyLevel tells whether there is a rule for whatever is left, at each level.
func everyLevel(rules []api.Rule) bool {
	for _, open := range [...][3]string{{whatever}, {whatever, whatever}, {whatever, whatever, whatever}} {
		// How many texts a right rule has tells its level.
		if !slices.ContainsFunc(rules, func(r api.Rule) bool { return r.D == open && r.S == open }) {
			return false
		}
	}
	return true
}
