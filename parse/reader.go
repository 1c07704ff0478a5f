package parse

import (
	"isogloss/api"
	"isogloss/ascii"
	"isogloss/fault"
	"isogloss/split"
	"isogloss/tag"
)

// A stage is the kind of pieces that the next one is tried as first.
type stage int

const (
	beginning stage = iota
	extlangs
	scripts
	regions
	variants
	extensions
	privates
)

const (
	// mark stands ahead of what is private.
	mark = "x"
	// mostExtlangs is how many there are at most.
	mostExtlangs = 3
	// longestShort is how many letters a language has at most that has extlangs.
	longestShort = 3
)

// reader takes in a text's pieces, by the grammar, in small letters.
type reader struct {
	// tag is what was read up to end. A singleton, and a mark, get in with the piece that must stand
	// behind them alone: so it is a tag at all times, however soon the reading ends.
	tag api.Tag
	end int
	// stage moves on, and never back.
	stage stage
	// key is the singleton of the extension that is being read.
	key string
	// must is whether one more piece must be.
	must bool
	// seen has the variants and singletons that were there. No text is both.
	seen map[string]bool
}

// read takes in a text's pieces, up to the first that is wrong.
func read(s string) (r *reader, e error) {
	r = &reader{seen: map[string]bool{}}
	defer func() {
		if wrong, ok := recover().(error); ok {
			e = wrong
		}
	}()
	for at, piece := range split.Each(s) {
		r.take(at, ascii.Lower(piece))
		if !r.must {
			r.end = at + len(piece)
		}
	}
	if r.must {
		fail(api.ErrSyntax, len(s), "end")
	}
	return r, nil
}

// fail ends the reading.
func fail(kind api.Errno, at int, what string) { panic(fault.New(kind, at, what)) }

// take takes in a piece as the first kind that it can be here.
func (r *reader) take(at int, s string) {
	taken := false
	switch r.stage {
	case beginning:
		taken = r.mark(s) || r.language(s)
	case privates:
		taken = r.private(s)
	default:
		taken = r.further(at, s)
	}
	if !taken {
		fail(api.ErrSyntax, at, "subtag")
	}
}

// further takes in a piece behind a language, if it can be there.
func (r *reader) further(at int, s string) bool {
	switch r.stage {
	case extlangs:
		if r.extlang(s) {
			return true
		}
		fallthrough
	case scripts:
		if r.script(s) {
			return true
		}
		fallthrough
	case regions:
		if r.region(s) {
			return true
		}
		fallthrough
	case variants:
		if r.variant(at, s) {
			return true
		}
		fallthrough
	case extensions:
		return r.extended(s) || r.singleton(at, s) || r.mark(s)
	}
	return false
}

func (r *reader) language(s string) bool {
	if !tag.Language(s) {
		return false
	}
	r.tag.Lang, r.stage = s, scripts
	if len(s) <= longestShort {
		r.stage = extlangs
	}
	return true
}

func (r *reader) extlang(s string) bool {
	if !tag.Extlang(s) || len(r.tag.Extlang) == mostExtlangs {
		return false
	}
	r.tag.Extlang = append(r.tag.Extlang, s)
	return true
}

func (r *reader) script(s string) bool {
	if !tag.Script(s) {
		return false
	}
	r.tag.Script, r.stage = s, regions
	return true
}

func (r *reader) region(s string) bool {
	if !tag.Region(s) {
		return false
	}
	r.tag.Region, r.stage = s, variants
	return true
}

func (r *reader) variant(at int, s string) bool {
	if !tag.Variant(s) {
		return false
	}
	r.once(at, s, "variant")
	r.tag.Variants, r.stage = append(r.tag.Variants, s), variants
	return true
}

// singleton begins an extension.
func (r *reader) singleton(at int, s string) bool {
	if r.must || !tag.Singleton(s) {
		return false
	}
	r.once(at, s, "singleton")
	r.key, r.must, r.stage = s, true, extensions
	return true
}

// extended goes on with an extension.
func (r *reader) extended(s string) bool {
	if r.key == "" || len(s) < 2 || !subtag(s) {
		return false
	}
	if r.must {
		r.tag.Exts = append(r.tag.Exts, api.Ext{Key: r.key})
	}
	last := &r.tag.Exts[len(r.tag.Exts)-1]
	last.Subs, r.must = append(last.Subs, s), false
	return true
}

// mark begins what is private.
func (r *reader) mark(s string) bool {
	if r.must || s != mark {
		return false
	}
	r.must, r.stage = true, privates
	return true
}

func (r *reader) private(s string) bool {
	if !subtag(s) {
		return false
	}
	r.tag.Private, r.must = append(r.tag.Private, s), false
	return true
}

// once ends the reading at what was there.
func (r *reader) once(at int, s, what string) {
	if r.seen[s] {
		fail(api.ErrDuplicate, at, what)
	}
	r.seen[s] = true
}

// subtag tells whether a piece is one at all.
func subtag(piece string) bool { return split.Check(piece) == nil }
