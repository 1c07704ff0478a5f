package likely_test

import (
	"fmt"
	"slices"
	"strings"
	"testing"

	"isogloss/api"
	"isogloss/likely"
	"isogloss/parse"
	"isogloss/tag"
)

// words are the texts of a row, `-` for an empty one.
func words(s string) []string {
	row := strings.Fields(s)
	for at, word := range row {
		if word == "-" {
			row[at] = ""
		}
	}
	return row
}

// rung is a row of L, S and R.
func rung(s string) [3]string { return [3]string(words(s)) }

// rungs are rows of L, S and R, with `;` between.
func rungs(s string) [][3]string {
	var all [][3]string
	for _, part := range strings.Split(s, ";") {
		if part != "" {
			all = append(all, rung(part))
		}
	}
	return all
}

// row is a likely row: L, S, R, ToL, ToS and ToR.
func row(s string) api.Likely {
	w := [6]string(words(s))
	return api.Likely{L: w[0], S: w[1], R: w[2], ToL: w[3], ToS: w[4], ToR: w[5]}
}

// with is an image with just these likely rows.
func with(all ...string) api.Image {
	var im api.Image
	for _, s := range all {
		im.Likely = append(im.Likely, row(s))
	}
	return im
}

// of is the tag of a text.
func of(s string) api.Tag {
	x, e := parse.Parse(s)
	if e != nil {
		panic(s + ": " + e.Error())
	}
	return x
}

// fields is a tag with just these: Lang, Script and Region.
func fields(s string) api.Tag {
	w := rung(s)
	return api.Tag{Lang: w[0], Script: w[1], Region: w[2]}
}

// laden is a tag with these, and something in each of its other fields.
func laden(x api.Tag) api.Tag {
	x.Extlang, x.Variants, x.Private = []string{"cmn", "yue"}, []string{"fonipa", "1994", "fonipa"}, []string{"b", "a"}
	x.Exts = []api.Ext{{Key: "u", Subs: []string{"co", "true", "ca"}}, {Key: "a"}, {Key: "t", Subs: []string{}}, {Key: "U", Subs: []string{"und", ""}}}
	x.Grand = "i-klingon"
	return x
}

// said is a tag, or an image, as a text, in which nothing is left out.
func said(x any) string { return fmt.Sprintf("%+q", x) }

// ladderAgain is a tag's ladder, once more.
func ladderAgain(x api.Tag) [][3]string {
	var all [][3]string
	tell := func(there bool, l, s, r string) {
		if there && x.Lang != "" {
			all = append(all, [3]string{l, s, r})
		}
	}
	tell(x.Script != "" && x.Region != "", x.Lang, x.Script, x.Region)
	tell(x.Region != "", x.Lang, "", x.Region)
	tell(x.Script != "", x.Lang, x.Script, "")
	tell(true, x.Lang, "", "")
	tell(x.Script != "" && x.Lang != "und", "und", x.Script, "")
	return all
}

// findAgain is the first likely row of these, once more.
func findAgain(im api.Image, l, s, r string) (api.Likely, bool) {
	for _, x := range im.Likely {
		if x.L == l && x.S == s && x.R == r {
			return x, true
		}
	}
	return api.Likely{}, false
}

// maximizeAgain is a tag in full, once more.
func maximizeAgain(im api.Image, x api.Tag) (api.Tag, bool) {
	x = tag.Clone(x)
	for _, l := range ladderAgain(x) {
		to, found := findAgain(im, l[0], l[1], l[2])
		if !found {
			continue
		}
		if x.Lang == "und" {
			x.Lang = to.ToL
		}
		if x.Script == "" {
			x.Script = to.ToS
		}
		if x.Region == "" {
			x.Region = to.ToR
		}
		return x, true
	}
	return x, false
}

// spoil writes into all rows of a tag, up to what they could hold, and tells whether two of them share anything.
func spoil(x api.Tag) bool {
	rows := [][]string{x.Extlang, x.Variants, x.Private}
	for _, e := range x.Exts {
		rows = append(rows, e.Subs)
	}
	for at, row := range rows {
		row = row[:cap(row)]
		for i := range row {
			row[i] = fmt.Sprint("spoilt ", at)
		}
	}
	shared := false
	for at, row := range rows {
		for _, s := range row[:cap(row)] {
			shared = shared || s != fmt.Sprint("spoilt ", at)
		}
	}
	for i := range x.Exts[:cap(x.Exts)] {
		x.Exts[:cap(x.Exts)][i] = api.Ext{Key: "spoilt"}
	}
	return shared
}

// holdLadder holds a tag's ladder: all of it, twice, and left off behind each of its rows.
func holdLadder(t *testing.T, x api.Tag, want [][3]string) {
	t.Helper()
	asked := said(x)
	ladder := likely.Ladder(x)
	if ladder == nil {
		t.Fatalf("Ladder(%.300s) is nil", asked)
	}
	for range 2 {
		if got := slices.Collect(ladder); !slices.Equal(got, want) {
			t.Errorf("Ladder(%.300s): %.300q, want %.300q", asked, got, want)
		}
	}
	for most := range len(want) {
		var got [][3]string
		for l := range ladder {
			got = append(got, l)
			l[0], l[1], l[2] = "spoilt", "spoilt", "spoilt"
			if len(got) == most+1 {
				break
			}
		}
		if !slices.Equal(got, want[:most+1]) {
			t.Errorf("Ladder(%.300s), %d of it: %.300q, want %.300q", asked, most+1, got, want[:most+1])
		}
	}
	// A walk within another one hinders neither.
	walks := 0
	for outer := range ladder {
		if got := slices.Collect(ladder); !slices.Equal(got, want) || outer != want[min(walks, len(want)-1)] {
			t.Errorf("Ladder(%.300s), walk %d: %.300q, %.300q, want %.300q", asked, walks, outer, got, want)
		}
		walks++
	}
	if walks != len(want) {
		t.Errorf("Ladder(%.300s): %d rows, want %d", asked, walks, len(want))
	}
	if said(x) != asked {
		t.Errorf("Ladder(%.300s) has changed it to %.300s", asked, said(x))
	}
}

// holdFind holds what Find tells.
func holdFind(t *testing.T, im api.Image, asked [3]string, want api.Likely, there bool) {
	t.Helper()
	before := said(im)
	for range 2 {
		if got, ok := likely.Find(im, asked[0], asked[1], asked[2]); got != want || ok != there {
			t.Errorf("Find(%.300s, %.100q): %+q, %t, want %+q, %t", before, asked, got, ok, want, there)
		}
	}
	if said(im) != before {
		t.Errorf("Find(%.300s, %.100q) has changed the image to %.300s", before, asked, said(im))
	}
}

// hold holds a tag in full, and whether it is.
func hold(t *testing.T, im api.Image, x, want api.Tag, there bool) {
	t.Helper()
	before, asked := said(im), said(x)
	for range 2 {
		got, ok := likely.Maximize(im, x)
		if !tag.Same(got, want) || ok != there {
			t.Errorf("Maximize(%.300s, %.300s): %.300s, %t, want %.300s, %t", before, asked, said(got), ok, said(want), there)
		}
		if spoil(got) {
			t.Errorf("Maximize(%.300s, %.300s): rows of what is told share something", before, asked)
		}
		if said(im) != before || said(x) != asked {
			t.Fatalf("Maximize(%.300s, %.300s): that is changed, or shares with what is told, to (%.300s, %.300s)", before, asked, said(im), said(x))
		}
	}
}

// mixed calls for each tag with one text of each row as Lang, Script and Region.
func mixed(langs, scripts, regions []string, each func(x api.Tag)) {
	for _, l := range langs {
		for _, s := range scripts {
			for _, r := range regions {
				each(api.Tag{Lang: l, Script: s, Region: r})
			}
		}
	}
}
