package rewrite

import "isogloss/api"

// name is what an alias is of: its A, and, of a type, its B.
type name [2]string

// places are where names are in a row, the first time.
type places map[name]int

// add keeps where a name is, unless it was met ahead of that.
func (p places) add(n name, place int) {
	if _, met := p[n]; !met {
		p[n] = place
	}
}

// earliest is the first alias of a kind that is of the earliest of the names, and where that name is.
func (p places) earliest(aliases []api.Alias, kind int) (at, place int, found bool) {
	for i, a := range aliases {
		if a.Kind != kind {
			continue
		}
		if here, named := p[nameOf(a)]; named && (!found || here < place) {
			at, place, found = i, here, true
		}
	}
	return at, place, found
}

// nameOf is what an alias is of.
func nameOf(a api.Alias) name {
	if a.Kind == api.AliasType {
		return name{a.A, a.B}
	}
	return name{a.A}
}
