package minimal_test

import (
	"fmt"
	"strings"
	"testing"

	"isogloss/api"
	"isogloss/minimal"
	"isogloss/parse"
	"isogloss/tag"
)

// words are the three or six texts of a row, `-` for an empty one.
func words(s string) []string {
	row := strings.Fields(s)
	for at, word := range row {
		if word == "-" {
			row[at] = ""
		}
	}
	return row
}

// with is an image with just these likely rows: L, S, R, ToL, ToS and ToR of each.
func with(all ...string) api.Image {
	var im api.Image
	for _, s := range all {
		w := [6]string(words(s))
		im.Likely = append(im.Likely, api.Likely{L: w[0], S: w[1], R: w[2], ToL: w[3], ToS: w[4], ToR: w[5]})
	}
	return im
}

// of is the tag of a text.
func of(s string) api.Tag {
	x, e := parse.Parse(s)
	if e != nil {
		panic(s + ": " + e.Error())
	}
	return x
}

// fields is a tag with just these: Lang, Script and Region.
func fields(s string) api.Tag {
	w := [3]string(words(s))
	return api.Tag{Lang: w[0], Script: w[1], Region: w[2]}
}

// laden is a tag with something in each of its fields but Lang, Script and Region.
func laden(x api.Tag) api.Tag {
	x.Extlang, x.Variants, x.Private = []string{"cmn", "yue"}, []string{"fonipa", "1994", "fonipa"}, []string{"b", "a"}
	x.Exts = []api.Ext{{Key: "u", Subs: []string{"co", "true", "ca"}}, {Key: "a"}, {Key: "t", Subs: []string{}}, {Key: "U", Subs: []string{"und", ""}}}
	x.Grand = "i-klingon"
	return x
}

// said is a tag, tags, or an image, as a text, in which nothing is left out.
func said(x any) string { return fmt.Sprintf("%+q", x) }

// same tells whether two rows have the same tags, in the same order.
func same(a, b []api.Tag) bool {
	if len(a) != len(b) {
		return false
	}
	for at := range a {
		if !tag.Same(a[at], b[at]) {
			return false
		}
	}
	return true
}

// trialsAgain are a tag's trials, once more.
func trialsAgain(full api.Tag, script bool) []api.Tag {
	bare, withRegion, withScript := tag.Clone(full), tag.Clone(full), tag.Clone(full)
	bare.Script, bare.Region = "", ""
	withRegion.Script, withScript.Region = "", ""
	if script {
		return []api.Tag{bare, withScript, withRegion, full}
	}
	return []api.Tag{bare, withRegion, withScript, full}
}

// maximizeAgain is a tag in full, by the words of its chapter.
func maximizeAgain(im api.Image, x api.Tag) (api.Tag, bool) {
	type row struct {
		there bool
		l     [3]string
	}
	x = tag.Clone(x)
	for _, r := range []row{
		{x.Script != "" && x.Region != "", [3]string{x.Lang, x.Script, x.Region}},
		{x.Region != "", [3]string{x.Lang, "", x.Region}},
		{x.Script != "", [3]string{x.Lang, x.Script, ""}},
		{true, [3]string{x.Lang, "", ""}},
		{x.Script != "", [3]string{"und", x.Script, ""}},
	} {
		for _, to := range im.Likely {
			if x.Lang == "" || !r.there || r.l != [3]string{to.L, to.S, to.R} {
				continue
			}
			if x.Lang == "und" {
				x.Lang = to.ToL
			}
			if x.Script == "" {
				x.Script = to.ToS
			}
			if x.Region == "" {
				x.Region = to.ToR
			}
			return x, true
		}
	}
	return x, false
}

// saysAgain tells whether less says what full does, once more.
func saysAgain(im api.Image, less, full api.Tag) bool {
	told, ok := maximizeAgain(im, less)
	return ok && [3]string{told.Lang, told.Script, told.Region} == [3]string{full.Lang, full.Script, full.Region}
}

// minimizeAgain is the least of a tag, once more.
func minimizeAgain(im api.Image, x api.Tag, script bool) (api.Tag, bool) {
	full, ok := maximizeAgain(im, x)
	if !ok {
		return x, false
	}
	for _, less := range trialsAgain(full, script) {
		if saysAgain(im, less, full) {
			return less, true
		}
	}
	return full, true
}

// spoil writes into all rows of a tag, up to what they could hold, and tells whether two of them share anything.
func spoil(x api.Tag) bool {
	rows := [][]string{x.Extlang, x.Variants, x.Private}
	for _, e := range x.Exts {
		rows = append(rows, e.Subs)
	}
	for at, row := range rows {
		row = row[:cap(row)]
		for i := range row {
			row[i] = fmt.Sprint("spoilt ", at)
		}
	}
	shared := false
	for at, row := range rows {
		for _, s := range row[:cap(row)] {
			shared = shared || s != fmt.Sprint("spoilt ", at)
		}
	}
	for i := range x.Exts[:cap(x.Exts)] {
		x.Exts[:cap(x.Exts)][i] = api.Ext{Key: "spoilt"}
	}
	return shared
}

// holdTrials holds a tag's trials: all of them, twice, left off behind each of them, and gone over within another walk.
func holdTrials(t *testing.T, x api.Tag, script bool, want []api.Tag) {
	t.Helper()
	asked := said(x)
	trials := minimal.Trials(x, script)
	if trials == nil {
		t.Fatalf("Trials(%.300s, %t) is nil", asked, script)
	}
	for most := range 2 * (len(want) + 1) {
		most %= len(want) + 1
		var got []api.Tag
		for less := range trials {
			got = append(got, tag.Clone(less))
			// What is told is the caller's: no other one has any of it, nor what was handed in.
			if spoil(less) {
				t.Errorf("Trials(%.300s, %t): rows of what is told share something", asked, script)
			}
			if len(got) == most {
				break
			}
		}
		if held := want[:most]; most != 0 && !same(got, held) || most == 0 && !same(got, want) {
			t.Errorf("Trials(%.300s, %t), %d of them: %.900s, want %.900s", asked, script, most, said(got), said(want))
		}
	}
	walks := 0
	for outer := range trials {
		inner := 0
		for less := range trials {
			if inner >= len(want) || !tag.Same(less, want[inner]) {
				t.Errorf("Trials(%.300s, %t), %d within %d: %.300s", asked, script, inner, walks, said(less))
			}
			spoil(less)
			inner++
		}
		if inner != len(want) || walks >= len(want) || !tag.Same(outer, want[walks]) {
			t.Errorf("Trials(%.300s, %t), %d: %.300s, %d within it", asked, script, walks, said(outer), inner)
		}
		walks++
	}
	if said(x) != asked {
		t.Errorf("Trials(%.300s, %t) has changed it to %.300s", asked, script, said(x))
	}
}

// holdSays holds whether less says what full does.
func holdSays(t *testing.T, im api.Image, less, full api.Tag, want bool) {
	t.Helper()
	before := said([]any{im, less, full})
	for range 2 {
		if got := minimal.Says(im, less, full); got != want {
			t.Errorf("Says(%.900s): %t", before, got)
		}
	}
	if after := said([]any{im, less, full}); after != before {
		t.Errorf("Says(%.900s) has changed that to %.900s", before, after)
	}
}

// hold holds the least of a tag, and whether there is one in full.
func hold(t *testing.T, im api.Image, x api.Tag, script bool, want api.Tag, there bool) {
	t.Helper()
	before, asked := said(im), said(x)
	for range 2 {
		got, ok := minimal.Minimize(im, x, script)
		if !tag.Same(got, want) || ok != there {
			t.Errorf("Minimize(%.300s, %.300s, %t): %.300s, %t, want %.300s, %t", before, asked, script, said(got), ok, said(want), there)
		}
		if spoil(got) {
			t.Errorf("Minimize(%.300s, %.300s, %t): rows of what is told share something", before, asked, script)
		}
		if said(im) != before || said(x) != asked {
			t.Fatalf("Minimize(%.300s, %.300s, %t): that is changed, or shares with what is told, to (%.300s, %.300s)", before, asked, script, said(im), said(x))
		}
	}
}

// mixed calls for each tag with one text of each row as Lang, Script and Region.
func mixed(langs, scripts, regions []string, each func(x api.Tag)) {
	for _, l := range langs {
		for _, s := range scripts {
			for _, r := range regions {
				each(api.Tag{Lang: l, Script: s, Region: r})
			}
		}
	}
}

// bools are both.
func bools() []bool { return []bool{false, true} }
