package check

import (
	"isogloss/api"
	"isogloss/grand"
)

// name is what an alias is of: its A, and, of a type, its B.
type name [2]string

// names are those that are called otherwise, by the kinds of their aliases.
type names map[int]map[name]bool

// oldNames are what aliases are of, right or not.
func oldNames(aliases []api.Alias) names {
	old := names{}
	for _, a := range aliases {
		if old[a.Kind] == nil {
			old[a.Kind] = map[name]bool{}
		}
		old[a.Kind][named(a.Kind, a.A, a.B)] = true
	}
	return old
}

// named is the name of something, by a kind of alias.
func named(kind int, a, b string) name {
	if kind == api.AliasType {
		return name{a, b}
	}
	return name{a}
}

// final tells whether something has no alias, by a kind of alias.
func (old names) final(kind int, a, b string) bool {
	switch kind {
	case api.AliasLang:
		// A language that is called otherwise in some region alone is not final either.
		return !old.has(kind, a, b) && !old.has(api.AliasPair, a, b)
	case api.AliasScript, api.AliasRegion, api.AliasVariant, api.AliasType:
		return !old.has(kind, a, b)
	}
	return true
}

// has tells whether there is an alias of such a kind of something.
func (old names) has(kind int, a, b string) bool { return old[kind][named(kind, a, b)] }

// fine tells whether a text is final, or not there.
func (old names) fine(kind int, text string) bool {
	return text == "" || old.final(kind, text, "")
}

// grandfathered tells whether a text is a grandfathered tag for which there is an alias.
func (old names) grandfathered(text string) bool {
	number, found := grand.Find(text)
	return found && old.has(api.AliasGrand, string([]byte{'0' + byte(number/10), '0' + byte(number%10)}), "")
}

// ends tells whether all that a right alias leads to is final.
func (old names) ends(a api.Alias) bool {
	switch a.Kind {
	case api.AliasVariant:
		return old.fine(a.Kind, a.L)
	case api.AliasType:
		return old.final(a.Kind, a.A, a.L)
	}
	// What an alias of another kind doesn't lead to is empty.
	return old.fine(api.AliasLang, a.L) && old.fine(api.AliasScript, a.S) && old.fine(api.AliasRegion, a.R)
}
