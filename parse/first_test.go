package parse_test

import (
	"strings"
	"testing"

	"isogloss/api"
	"isogloss/grand"
	"isogloss/parse"
	"isogloss/split"
	"isogloss/tag"
)

// holdFirst holds what is told of a text's beginning against that, and against what is left.
func holdFirst(t *testing.T, s string, want api.Tag, left string) {
	t.Helper()
	x, behind := parse.First(s)
	if !tag.Same(x, want) || behind != left {
		t.Errorf("First(%.80q): %s, %.80q, want %s, %.80q", s, shown(x), behind, shown(want), left)
	}
}

// P7.2: the tag with which a text begins, and what is left.
func TestFirst(t *testing.T) {
	for _, c := range []struct{ s, tag, left string }{
		{"en-us-u-ab-é-x", "en-us-u-ab", "é-x"}, {"en_US", "", "en_US"}, {"en-us_x", "en", "us_x"}, {"en-us--x-a", "en-us", "-x-a"}, {"en-", "en", ""}, {"en--", "en", "-"}, {"en-us-", "en-us", ""}, {"x-a-", "x-a", ""}, {"en--us", "en", "-us"},
		{"EN-us-419-Latn", "en-us", "419-Latn"}, {"abcd-ABC-x", "abcd", "ABC-x"}, {"zh-yue-min-cmn-nan-TW", "zh-yue-min-cmn", "nan-TW"}, {"sr-Latn-Latn", "sr-latn", "Latn"},
		// What must have one more, and doesn't, is left.
		{"en-u", "en", "u"}, {"en-U-u-co", "en", "U-u-co"}, {"en-u-x-a", "en", "u-x-a"}, {"en-u-", "en", "u-"}, {"en-u-co-t", "en-u-co", "t"}, {"en-u-co-t-x-a", "en-u-co", "t-x-a"}, {"en-u-co-x", "en-u-co", "x"}, {"en-X-", "en", "X-"}, {"en-x-é", "en", "x-é"}, {"en-x-a-abcdefghi-b", "en-x-a", "abcdefghi-b"}, {"de-1901-x", "de-1901", "x"},
		// What was there is left.
		{"de-1901-1901-x-a", "de-1901", "1901-x-a"}, {"de-1901-fonipa-1901", "de-1901-fonipa", "1901"}, {"en-u-co-U-co", "en-u-co", "U-co"}, {"en-a-bb-b-cc-a-dd", "en-a-bb-b-cc", "a-dd"},
		// There is none.
		{"", "", ""}, {"-", "", "-"}, {"--", "", "--"}, {"-en", "", "-en"}, {"-en-us", "", "-en-us"}, {"x", "", "x"}, {"x-", "", "x-"}, {"X-é", "", "X-é"}, {"x-abcdefghi-a", "", "x-abcdefghi-a"}, {"a-en", "", "a-en"}, {"I", "", "I"}, {"i-am", "", "i-am"}, {"i-amis", "", "i-amis"}, {"i-ami_", "", "i-ami_"}, {"419-us", "", "419-us"}, {"abcdefghi-us", "", "abcdefghi-us"}, {"\xff", "", "\xff"}, {"é-en", "", "é-en"},
	} {
		want, e := api.Tag{}, error(nil)
		if c.tag != "" {
			if want, e = parse.Parse(c.tag); e != nil {
				t.Fatalf("Parse(%s): %v", c.tag, e)
			}
		}
		holdFirst(t, c.s, want, c.left)
		holdFirst(t, great(c.s), want, great(c.left))
	}
}

// P7.2: of a tag all is told, and nothing is left; a `-` behind it is left off, and one behind that stays.
func TestFirstOfAll(t *testing.T) {
	for _, c := range append(samples(), nearGrand()...) {
		for _, s := range cases(c.s) {
			holdFirst(t, s, c.want, "")
			holdFirst(t, s+"-", c.want, "")
			holdFirst(t, s+"--x", c.want, "-x")
			holdFirst(t, s+"-é", c.want, "é")
			holdFirst(t, s+"-Abcdefghi-us", c.want, "Abcdefghi-us")
		}
	}
}

// P7.2: a grandfathered tag begins a text, if no longer tag does.
func TestFirstGrandfathered(t *testing.T) {
	for _, name := range grand.All() {
		for _, s := range cases(name) {
			want := api.Tag{Grand: name}
			holdFirst(t, s, want, "")
			holdFirst(t, s+"-", want, "")
			holdFirst(t, s+"-É", want, "É")
			holdFirst(t, s+"-abcdefghi-us", want, "abcdefghi-us")
			holdFirst(t, s+"-x", want, "x")
			holdFirst(t, s+"-u-x-a", want, "u-x-a")
		}
	}
	for s, left := range map[string]string{"I-AMI-x-a": "x-a", "i-default-1994-US": "1994-US", "en-gb-oed-x-a": "x-a", "en-GB-oed-US": "US", "sgn-be-fr-u-co": "u-co", "sgn-ch-de-1994": "1994"} {
		name := strings.ToLower(strings.TrimSuffix(s, "-"+left))
		holdFirst(t, s, api.Tag{Grand: name}, left)
	}
	for _, c := range nearGrand() {
		holdFirst(t, c.s+"-é", c.want, "é")
	}
	holdFirst(t, "zh-min-na", api.Tag{Lang: "zh", Extlang: []string{"min"}, Region: "na"}, "")
	holdFirst(t, "zh-min-nan1", api.Tag{Grand: "zh-min"}, "nan1")
	holdFirst(t, "zh-min-nan_", api.Tag{Grand: "zh-min"}, "nan_")
	holdFirst(t, "zh-min-nan-419-Latn", api.Tag{Lang: "zh", Extlang: []string{"min", "nan"}, Region: "419"}, "Latn")
}

// firstOf is the longest beginning that is a tag, as the grammar has it, and what is left.
func firstOf(s string) (string, string) {
	for end := len(s); end > 0; end-- {
		if end < len(s) && s[end] != '-' || wrongOf(strings.ToLower(s[:end])) != (wrong{}) {
			continue
		}
		return s[:end], strings.TrimPrefix(s[end:], "-")
	}
	return "", s
}

// P7.2: of all short texts, the longest beginning that can be.
func TestFirstOfRows(t *testing.T) {
	all := rows(kinds(), 3)
	for _, name := range grand.All() {
		for _, s := range rows(kinds(), 2) {
			all = append(all, name+"-"+s, name+s)
		}
	}
	for _, head := range heads() {
		for _, s := range rows([]string{"us", "1994", "Scouse", "u", "U", "x", ""}, 3) {
			all = append(all, head+s)
		}
	}
	for _, s := range all {
		begins, left := firstOf(s)
		x, behind := parse.First(s)
		if got := split.Join(tag.Subtags(x)...); got != strings.ToLower(begins) || behind != left || (begins != "") != tag.Right(x) {
			t.Errorf("First(%q): %s, %q, want %s, %q", s, shown(x), behind, begins, left)
		}
		if want, _ := parse.Parse(begins); !tag.Same(x, want) {
			t.Errorf("First(%q): %s, want %s", s, shown(x), shown(want))
		}
	}
}
