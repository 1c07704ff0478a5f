package rewrite

import (
	"cmp"
	"slices"

	"isogloss/api"
	"isogloss/grand"
	"isogloss/keyword"
	"isogloss/split"
	"isogloss/tag"
)

const (
	// wholeNumber and extlangNumber are the numbers of the steps that are by no alias.
	wholeNumber, extlangNumber = -2, -1
	// locale is the Key of the extensions in which types stand.
	locale = "u"
)

// way is one of the ways to a step: the tag behind it, its number, and whether it can be done. It shares rows with what it is asked of, and writes into none of them.
type way func(aliases []api.Alias, t api.Tag) (api.Tag, int, bool)

// ways are all of them, in the order in which they are tried.
func ways() [9]way {
	return [...]way{
		whole, extlang,
		by(api.AliasGrand), by(api.AliasPair), by(api.AliasLang), by(api.AliasScript), by(api.AliasRegion),
		variant, keyType,
	}
}

// first is the first step that can be done.
func first(aliases []api.Alias, t api.Tag) (api.Tag, int, bool) {
	for _, try := range ways() {
		if next, number, found := try(aliases, t); found {
			return next, number, true
		}
	}
	return api.Tag{}, 0, false
}

// whole is the step to a grandfathered tag, from one whose text is that.
func whole(_ []api.Alias, t api.Tag) (api.Tag, int, bool) {
	if t.Grand != "" {
		return api.Tag{}, 0, false
	}
	number, found := grand.Find(split.Join(tag.Subtags(t)...))
	if !found {
		return api.Tag{}, 0, false
	}
	name, _ := grand.Name(number)
	return api.Tag{Grand: name}, wholeNumber, true
}

// extlang is the step to the language that the first extlang is.
func extlang(_ []api.Alias, t api.Tag) (api.Tag, int, bool) {
	if len(t.Extlang) == 0 {
		return api.Tag{}, 0, false
	}
	t.Lang, t.Extlang = t.Extlang[0], nil
	return t, extlangNumber, true
}

// by is the way by the first alias of a kind, one of those that are of a field of one text.
func by(kind int) way {
	return func(aliases []api.Alias, t api.Tag) (api.Tag, int, bool) {
		at := slices.IndexFunc(aliases, func(a api.Alias) bool { return a.Kind == kind && fits(a, t) })
		if at < 0 {
			return api.Tag{}, 0, false
		}
		return renamed(t, aliases[at]), at, true
	}
}

// fits tells whether a tag has in its fields what such an alias is of.
func fits(a api.Alias, t api.Tag) bool {
	switch a.Kind {
	case api.AliasGrand:
		return isNumber(a.A, t.Grand)
	case api.AliasPair:
		if a.B != t.Region {
			return false
		}
		fallthrough
	case api.AliasLang:
		return a.A == t.Lang
	case api.AliasScript:
		return a.A == t.Script
	case api.AliasRegion:
		return a.A == t.Region
	}
	return false
}

// renamed is a tag with what such an alias leads to.
func renamed(t api.Tag, a api.Alias) api.Tag {
	switch a.Kind {
	case api.AliasGrand:
		// Nothing is left that could be kept instead of what the alias has.
		t = api.Tag{}
		fallthrough
	case api.AliasLang:
		t.Lang, t.Script, t.Region = a.L, cmp.Or(t.Script, a.S), cmp.Or(t.Region, a.R)
	case api.AliasPair:
		t.Lang, t.Region = a.L, ""
	case api.AliasScript:
		t.Script = a.S
	case api.AliasRegion:
		t.Region = a.R
	}
	return t
}

// isNumber tells whether a text is the two digits of a grandfathered tag's number.
func isNumber(text, name string) bool {
	number, found := grand.Find(name)
	return found && text == string([]byte{'0' + byte(number/10), '0' + byte(number%10)})
}

// variant is the step by the alias of the first of the variants that has one.
func variant(aliases []api.Alias, t api.Tag) (api.Tag, int, bool) {
	named := places{}
	for i, text := range t.Variants {
		named.add(name{text}, i)
	}
	at, i, found := named.earliest(aliases, api.AliasVariant)
	if !found {
		return api.Tag{}, 0, false
	}
	t.Variants = replaced(t.Variants, i, aliases[at].L)
	return t, at, true
}

// replaced is a new row with another text at a place; without either, if that is empty, or there already.
func replaced(row []string, at int, text string) []string {
	rest := slices.Delete(slices.Clone(row), at, at+1)
	if text == "" || slices.Contains(rest, text) {
		return rest
	}
	return slices.Insert(rest, at, text)
}

// keyType is the step by the alias of the type of the first of the keys that has one.
func keyType(aliases []api.Alias, t api.Tag) (api.Tag, int, bool) {
	u := slices.IndexFunc(t.Exts, func(e api.Ext) bool { return e.Key == locale })
	if u < 0 {
		return api.Tag{}, 0, false
	}
	said := keyword.Read(t.Exts[u].Subs)
	named := places{}
	for i, e := range said.Keys {
		if len(e.Subs) == 1 {
			named.add(name{e.Key, e.Subs[0]}, i)
		}
	}
	at, i, found := named.earliest(aliases, api.AliasType)
	if !found {
		return api.Tag{}, 0, false
	}
	said.Keys[i].Subs = []string{aliases[at].L}
	t.Exts = slices.Clone(t.Exts)
	t.Exts[u].Subs = keyword.Write(said)
	return t, at, true
}
