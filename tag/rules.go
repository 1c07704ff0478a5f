package tag

import (
	"isogloss/api"
	"isogloss/ascii"
	"isogloss/grand"
	"isogloss/split"
)

// rules are what a tag that is right keeps.
type rules struct{ api.Tag }

// rule tells whether it is kept.
type rule func() bool

// makes are the three makes of tags, each with all that a tag of it keeps.
func (r *rules) makes() [][]rule {
	return [][]rule{
		{r.onlyGrand, r.grandfathered},
		{r.onlyPrivate, r.somePrivate, r.privates},
		{r.noGrand, r.language, r.extlangs, r.script, r.region, r.variants, r.extensions, r.privates, r.notGrandfathered},
	}
}

// small: all texts are in small letters. Beside a Grand there may be no other text, so that its pieces are all.
func (r *rules) small() bool {
	return every(Subtags(r.Tag), func(s string) bool { return s == ascii.Lower(s) })
}

// onlyGrand: all but Grand is empty.
func (r *rules) onlyGrand() bool { return Same(r.Tag, api.Tag{Grand: r.Grand}) }

// grandfathered: Grand is a grandfathered tag.
func (r *rules) grandfathered() bool { return old(r.Grand) }

// onlyPrivate: all but Private is empty.
func (r *rules) onlyPrivate() bool { return Same(r.Tag, api.Tag{Private: r.Private}) }

// somePrivate: Private is not empty.
func (r *rules) somePrivate() bool { return len(r.Private) > 0 }

// privates: what is private are subtags.
func (r *rules) privates() bool { return every(r.Private, subtag) }

// noGrand: there is no Grand.
func (r *rules) noGrand() bool { return r.Grand == "" }

// language: there is a language.
func (r *rules) language() bool { return Language(r.Lang) }

// extlangs: there are up to 3, and only behind a short language.
func (r *rules) extlangs() bool {
	if len(r.Extlang) == 0 {
		return true
	}
	return len(r.Extlang) <= 3 && len(r.Lang) <= 3 && every(r.Extlang, Extlang)
}

// script: it is empty, or a script.
func (r *rules) script() bool { return r.Script == "" || Script(r.Script) }

// region: it is empty, or a region.
func (r *rules) region() bool { return r.Region == "" || Region(r.Region) }

// variants: all are variants, and none is there twice.
func (r *rules) variants() bool { return every(r.Variants, Variant) && distinct(r.Variants) }

// extensions: all have a singleton of their own, and something behind it.
func (r *rules) extensions() bool {
	var keys []string
	for _, e := range r.Exts {
		if !Singleton(e.Key) || len(e.Subs) == 0 || !every(e.Subs, extended) {
			return false
		}
		keys = append(keys, e.Key)
	}
	return distinct(keys)
}

// notGrandfathered: the text is none, as it would be parsed as that.
func (r *rules) notGrandfathered() bool { return !old(split.Join(Subtags(r.Tag)...)) }

// old tells whether a text is a grandfathered tag.
func old(s string) bool {
	_, found := grand.Find(s)
	return found
}

// allKept tells whether all rules of a row are kept.
func allKept(row []rule) bool {
	return every(row, func(kept rule) bool { return kept() })
}
