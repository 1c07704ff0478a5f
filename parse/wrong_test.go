package parse_test

import (
	"errors"
	"regexp"
	"slices"
	"strings"
	"testing"

	"isogloss/api"
	"isogloss/fault"
	"isogloss/grand"
	"isogloss/parse"
	"isogloss/split"
	"isogloss/tag"
)

// wrong is what is wrong with a text, and where.
type wrong struct {
	kind api.Errno
	at   int
	what string
}

// What can be wrong: a piece that can't stand there, an end ahead of one more, and what was there.
func misfit(at int) wrong             { return wrong{api.ErrSyntax, at, "subtag"} }
func short(s string) wrong            { return wrong{api.ErrSyntax, len(s), "end"} }
func twice(at int, what string) wrong { return wrong{api.ErrDuplicate, at, what} }

// holdWrong holds what is told of a text that is no tag against what is wrong with it.
func holdWrong(t *testing.T, s string, want wrong) {
	t.Helper()
	x, e := parse.Parse(s)
	if !tag.Same(x, api.Tag{}) {
		t.Errorf("Parse(%.80q): %s beside %v", s, shown(x), e)
	}
	var f *fault.Fault
	if !errors.As(e, &f) {
		t.Errorf("Parse(%.80q): %v, want a fault: %v", s, e, want)
		return
	}
	if e != error(f) || *f != (fault.Fault{At: want.at, What: want.what, Inner: want.kind}) {
		t.Errorf("Parse(%.80q): %v, want %v", s, e, want)
	}
	if parse.Valid(s) {
		t.Errorf("Valid(%.80q): true", s)
	}
}

// great is a text with great letters of ASCII alone: others would change its length.
func great(s string) string {
	return strings.Map(func(r rune) rune {
		if 'a' <= r && r <= 'z' {
			return r - 'a' + 'A'
		}
		return r
	}, s)
}

// P7.1: the first piece that is no subtag.
func TestNoSubtags(t *testing.T) {
	for s, at := range map[string]int{
		"": 0, "-": 0, "--": 0, "-en": 0, "-x-a": 0, "en-": 3, "en--us": 3, "en-us-": 6, "x--a": 2, "x-": 2, "x-a-": 4, "x-a--b": 4, "en-u-": 5, "en-u--co": 5, "en-u-co-": 8, "en-u-co--t": 8, "en-x-": 5, "en-x-a-": 7, "i-ami-": 0, "zh-min-": 7,
		"abcdefghi": 0, "en-abcdefghi": 3, "x-abcdefghi": 2, "en-x-123456789": 5, "en-u-abcdefghi": 5, "en-u-co-123456789": 8, "de-1901-abcdefghi": 8,
		"en_US": 0, "en us": 0, " en": 0, "en ": 0, "en-us ": 3, "en-*": 3, "*": 0, "x-*": 2, "x_a": 0, "x-a_b": 2, "en-u-c_o": 5, "en-u-co_": 5, "en\n": 0, "en-us\x00": 3, "en-@u": 3, "en-[u": 3, "en-`u": 3, "en-{u": 3, "es-/19": 3, "es-:19": 3,
		"en-é": 3, "é": 0, "en-dé": 3, "x-é": 2, "en-x-é": 5, "en-u-é": 5, "x-a-é-x": 4, "en‐us": 0, "es-٤١٩": 3, "\u212aa": 0, "en-\u212aa": 3, "en-ſa": 3, "ıs": 0,
		"en-u-co-\xff": 8, "\xff": 0, "e\xee": 0, "en-u\xf3": 3, "en-\xf5s": 3, "de-190\xb1": 3, "i-am\xe9": 0, "x\xff-a": 0, "\xf8-a": 0,
		"en-us--é-abcdefghi": 6, "en-u-é--": 5, "x-abcdefghi-": 2,
	} {
		holdWrong(t, s, misfit(at))
		if s == strings.ToValidUTF8(s, "") {
			holdWrong(t, great(s), misfit(at))
		}
	}
}

// P7.1: the first piece that can't stand there.
func TestMisfits(t *testing.T) {
	for s, at := range map[string]int{
		// First: an x, or a language.
		"a": 0, "i": 0, "u": 0, "1": 0, "a-us": 0, "u-co": 0, "1-aa": 0, "i-a": 0, "i-u-co": 0, "i-ami-x-a": 0, "i-amis": 0, "i-am": 0, "419": 0, "12": 0, "1994": 0, "e1": 0, "en1": 0, "abcde1": 0, "1abcdefg": 0, "12345678": 0, "xx1": 0,
		// Extlangs: up to 3, behind 2 or 3 letters, ahead of all else.
		"zh-yue-yue-yue-yue": 15, "zho-yue-min-cmn-nan": 16, "zh-yue-min-cmn-nan-hant": 15, "abcd-yue": 5, "abcde-yue": 6, "abcdefgh-yue": 9, "hant-yue-hk": 5,
		"zh-hant-yue": 8, "zh-tw-yue": 6, "zh-1994-yue": 8, "zh-yue-hant-min": 12, "zh-yue-yu1": 7, "zh-yu1": 3, "zh-1ue": 3,
		// Scripts and regions: once, and in this order.
		"sr-latn-latn": 8, "sr-latn-cyrl": 8, "sr-us-latn": 6, "sr-latn-rs-latn": 11, "en-us-us": 6, "en-us-gb": 6, "en-us-419": 6, "es-419-us": 7, "es-419-419": 7,
		"sr-lat1": 3, "sr-l4tn": 3, "en-u1": 3, "en-1u": 3, "en-12": 3, "es-41": 3, "es-41a": 3, "es-a19": 3, "en-us-abc": 6, "en-us-abcd": 6, "en-us-ab1": 6, "en-latn-abc": 8,
		// Variants: behind those, ahead of extensions.
		"de-1901-latn": 8, "de-1901-de": 8, "de-1901-419": 8, "de-1901-abc": 8, "de-a123": 3, "de-abc1": 3, "de-1901-a1b2": 8, "de-1901-fonipa-us-1901": 15,
		// Extensions: behind a singleton 2 bytes or more; an x, or another singleton, only behind that.
		"en-u-u": 5, "en-u-t-co": 5, "en-u-x": 5, "en-u-x-a": 5, "en-u-1": 5, "en-u-a-bb": 5, "en-u-co-t-u": 10, "en-u-co-t-x-a": 10, "en-u-co-t-u-co": 10, "en-0-0": 5, "de-1901-u-u-1901": 10,
		// Grandfathered tags are such as a whole alone.
		"en-gb-oed-x-a": 6, "en-gb-oed-1994": 6, "en-us-oed": 6, "sgn-be-fr-x-a": 7, "sgn-ch-de-de": 7, "i-klingon-latn": 0, "zh-min-nan-yue-yue": 15, "i-hak-i-hak": 0,
		// What comes first is told.
		"en-us-us-": 6, "de-latn-latn-1901-1901": 8, "en-u-u-co-u-co": 5,
	} {
		for _, s := range cases(s) {
			holdWrong(t, s, misfit(at))
		}
	}
}

// P7.1: texts that end where one more must be.
func TestEnds(t *testing.T) {
	for _, s := range []string{"x", "en-x", "en-u", "en-0", "zh-yue-u", "zh-yue-min-cmn-x", "abcd-x", "sr-latn-x", "en-us-a", "en-us-x", "de-1901-u", "de-1901-x", "en-u-co-t", "en-u-co-x", "en-u-co-t-en-0", "en-u-co-t-en-x", "de-1901-1-1901-x", "zh-latn-cn-1994-boont-u-ca-x", "en-gb-x", "zh-min-nan-u"} {
		for _, c := range cases(s) {
			holdWrong(t, c, short(s))
		}
	}
}

// P7.1: a variant, or a singleton, that was there.
func TestTwice(t *testing.T) {
	for _, c := range []struct {
		s    string
		want wrong
	}{
		{"de-1901-1901", twice(8, "variant")}, {"de-1996-foobar-1996", twice(15, "variant")}, {"de-foobar-1996-foobar-1996", twice(15, "variant")}, {"de-1901-1901-1901", twice(8, "variant")},
		{"abcdefgh-abcdefgh-abcdefgh", twice(18, "variant")}, {"zh-latn-cn-1994-boont-1994-x-a", twice(22, "variant")}, {"de-1901-1901-latn", twice(8, "variant")}, {"de-1901-1901-", twice(8, "variant")}, {"de-1901-1901-u", twice(8, "variant")},
		{"en-a-bb-a-cc", twice(8, "singleton")}, {"en-a-bb-a", twice(8, "singleton")}, {"en-u-co-t-en-u-co", twice(13, "singleton")}, {"en-0-aa-1-aa-0-aa", twice(13, "singleton")}, {"de-1901-u-1901-1901-u-1901", twice(20, "singleton")},
		{"en-u-co-u-é", twice(8, "singleton")}, {"en-u-co-u-x", twice(8, "singleton")}, {"en-u-co-u-u", twice(8, "singleton")}, {"en-t-aa-u-co-u-co-t-aa", twice(13, "singleton")},
	} {
		holdWrong(t, c.s, c.want)
		holdWrong(t, great(c.s), c.want)
		half := len(c.s) / 2
		holdWrong(t, c.s[:half]+great(c.s[half:]), c.want)
		holdWrong(t, great(c.s[:half])+c.s[half:], c.want)
	}
}

// grammar is the chapter's, of small letters.
var grammar = regexp.MustCompile(`^(?:(?:[a-z]{2,3}(?:-[a-z]{3}){0,3}|[a-z]{4,8})(?:-[a-z]{4})?(?:-(?:[a-z]{2}|[0-9]{3}))?(?:-(?:[a-z0-9]{5,8}|[0-9][a-z0-9]{3}))*(?:-[a-wyz0-9](?:-[a-z0-9]{2,8})+)*(?:-x(?:-[a-z0-9]{1,8})+)?|x(?:-[a-z0-9]{1,8})+)$`)

// variant is what one looks like.
var variant = regexp.MustCompile(`^(?:[a-z0-9]{5,8}|[0-9][a-z0-9]{3})$`)

// wrongOf tells what is wrong with a text of small letters, as the grammar alone has it; the zero thing, if nothing is.
func wrongOf(s string) wrong {
	if _, old := grand.Find(s); old {
		return wrong{}
	}
	var ahead []string
	for at, piece := range split.Each(s) {
		head := s[:at+len(piece)]
		if !grammar.MatchString(head) && !grammar.MatchString(head+"-aa") {
			return misfit(at)
		}
		again := slices.Contains(ahead, piece)
		single := slices.ContainsFunc(ahead, func(a string) bool { return len(a) == 1 })
		switch {
		case again && variant.MatchString(piece) && !single && slices.Contains(ahead[1:], piece):
			return twice(at, "variant")
		case again && len(piece) == 1 && !slices.Contains(ahead, "x"):
			return twice(at, "singleton")
		}
		ahead = append(ahead, piece)
	}
	if !grammar.MatchString(s) {
		return short(s)
	}
	return wrong{}
}

// holdGrammar holds what is told of a text against what the grammar has.
func holdGrammar(t *testing.T, s string) {
	t.Helper()
	if want := wrongOf(strings.ToLower(s)); want != (wrong{}) {
		holdWrong(t, s, want)
		return
	}
	x, e := parse.Parse(s)
	if got := split.Join(tag.Subtags(x)...); e != nil || !parse.Valid(s) || !tag.Right(x) || got != strings.ToLower(s) {
		t.Errorf("Parse(%q): %s, %v, want its subtags", s, shown(x), e)
	}
}

// rows tells every text of up to so many of these pieces.
func rows(pieces []string, most int) []string {
	all := slices.Clone(pieces)
	last := all
	for range most - 1 {
		var next []string
		for _, s := range last {
			for _, piece := range pieces {
				next = append(next, s+"-"+piece)
			}
		}
		all, last = append(all, next...), next
	}
	return all
}

// kinds are pieces of each kind, and of none.
func kinds() []string {
	return []string{"En", "yue", "latN", "419", "1994", "sCouse", "abcdefgh", "u", "T", "0", "x", "i", "a1", "abcdefghi", "", "é"}
}

// P7.1, T1: a text is parsed just if the grammar derives it; else the first thing that is wrong is told.
func TestAllRows(t *testing.T) {
	for _, s := range rows(kinds(), 4) {
		holdGrammar(t, s)
	}
	few := rows([]string{"us", "1994", "Scouse", "u", "U", "t", "x"}, 4)
	for _, ahead := range []string{"en", "abcd-Latn", "zh-yue-min-nan", "de-1994", "en-u-co", "en-T-co-scouse", "x", "en-x-a"} {
		for _, s := range few {
			holdGrammar(t, ahead+"-"+s)
		}
	}
}

// P7.1: what begins as grandfathered tags do, and all with one piece less, or more.
func TestNearGrandfathered(t *testing.T) {
	for _, name := range grand.All() {
		pieces := split.Split(name)
		for _, s := range append(rows(kinds(), 2), pieces...) {
			holdGrammar(t, name+"-"+s)
			holdGrammar(t, s+"-"+name)
			for at := range pieces {
				row := slices.Clone(pieces)
				row[at] = s
				holdGrammar(t, split.Join(row...))
			}
		}
		for end := range len(name) {
			holdGrammar(t, name[:end])
			holdGrammar(t, name[end:])
		}
	}
}

// heads are texts behind which each kind of piece is tried.
func heads() []string {
	return []string{"", "x-", "x-a-", "en-", "abcd-", "zh-yue-", "zh-yue-min-cmn-", "zh-hant-", "en-us-", "de-1901-", "en-u-", "en-u-co-", "en-u-co-t-", "en-x-", "en-x-a-"}
}

// P7.1: pieces of all sizes, of letters and of digits, at each place of a row.
func TestSizes(t *testing.T) {
	for _, head := range heads() {
		for size := range 20 {
			for _, piece := range []string{"abcdefghijklmnopqrst"[:size], "01234567890123456789"[:size], "0abcdefghijklmnopqrs"[:size], "a0123456789012345678"[:size]} {
				holdGrammar(t, head+piece)
				holdGrammar(t, head+piece+"-zz")
			}
		}
	}
}

// P7.1: each byte, at each place of pieces of all kinds.
func TestBytes(t *testing.T) {
	for _, head := range heads() {
		for _, piece := range []string{"a", "ab", "abc", "abcd", "123", "1abc", "abcdefgh"} {
			for b := range 256 {
				for at := range len(piece) {
					s := head + piece[:at] + string([]byte{byte(b)}) + piece[at+1:]
					if b > 127 {
						holdWrong(t, s, misfit(len(head)))
						continue
					}
					holdGrammar(t, s)
				}
			}
		}
	}
}
