package alias

import (
	"isogloss/api"
	"isogloss/ascii"
	"isogloss/grand"
	"isogloss/tag"
)

// fits tells whether a text may stand at a place.
type fits func(s string) bool

// kinds are those of aliases, each with what tells whether an alias is what one of it must be.
func kinds() map[int]func(api.Alias) bool {
	return map[int]func(api.Alias) bool{
		api.AliasGrand:   must(number, none, tag.Language, maybe(tag.Script), maybe(tag.Region)),
		api.AliasPair:    must(tag.Language, tag.Region, tag.Language, none, none),
		api.AliasLang:    must(tag.Language, none, tag.Language, maybe(tag.Script), maybe(tag.Region)),
		api.AliasScript:  must(tag.Script, none, none, tag.Script, none),
		api.AliasRegion:  must(tag.Region, none, none, none, tag.Region),
		api.AliasVariant: must(tag.Variant, none, maybe(tag.Variant), none, none),
		api.AliasType:    must(sized(2, 2), sized(3, api.MaxSub), sized(3, api.MaxSub), none, none),
	}
}

// must makes what tells whether all texts of an alias are in small letters, and each is what it must be.
func must(a, b, l, s, r fits) func(api.Alias) bool {
	each := [...]fits{a, b, l, s, r}
	return func(x api.Alias) bool {
		for at, text := range fields(&x) {
			if !each[at](*text) || !small(*text) {
				return false
			}
		}
		return true
	}
}

// maybe makes what tells whether a text is empty, or something else.
func maybe(other fits) fits {
	return func(s string) bool { return none(s) || other(s) }
}

// sized makes what tells whether a text has from least to most letters and digits, and nothing else.
func sized(least, most int) fits {
	return func(s string) bool { return least <= len(s) && len(s) <= most && ascii.Alnum(s) }
}

// none tells whether a text is empty.
func none(s string) bool { return s == "" }

// small tells whether a text is in small letters.
func small(s string) bool { return s == ascii.Lower(s) }

// number tells whether a text is two digits, and these a grandfathered tag's number.
func number(s string) bool {
	if len(s) != 2 || !ascii.Digit(s) {
		return false
	}
	_, found := grand.Name(10*int(s[0]-'0') + int(s[1]-'0'))
	return found
}
