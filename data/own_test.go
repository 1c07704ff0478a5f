package data_test

import (
	"testing"

	"isogloss/api"
	"isogloss/data"
)

// spoil writes other things into all rows of an image, and into what is behind them.
func spoil(im *api.Image) {
	spoilRow(im.Aliases, api.Alias{Kind: api.AliasLang, A: "he", L: "iw"})
	spoilRow(im.Likely, api.Likely{L: "xx", ToL: "und", ToS: "zzzz", ToR: "zz"})
	spoilRow(im.Rules, api.Rule{Level: 9, Cost: 99, OneWay: true})
	spoilRow(im.Members, api.Member{Set: "none", Region: "zz"})
	im.Threshold, im.Demote = 1, 2
}

// spoilRow writes a thing to all places of a row, and behind it.
func spoilRow[T any](row []T, x T) {
	all := append(row, x, x, x)
	for at := range row {
		row[at], all[at] = x, x
	}
	behind := row[:cap(row)]
	for at := range behind {
		behind[at] = x
	}
}

// P15.1: each image is the caller's: what is written into one shows in no other one, nor in what is told later (R3, R4).
func TestOwn(t *testing.T) {
	bytes := data.Bytes()
	first, second := data.Image(), data.Image()
	spoil(&first)
	holdImage(t, second, imageAgain())
	for range 3 {
		im := data.Image()
		holdImage(t, im, imageAgain())
		spoil(&im)
		if data.Bytes() != bytes {
			t.Fatal("Bytes hangs on what is written into an image")
		}
		holdFind(t, api.AliasLang, "iw", "", api.Alias{Kind: api.AliasLang, A: "iw", L: "he"}, true)
		holdFind(t, api.AliasLang, "he", "", api.Alias{}, false)
		holdLikely(t, "en", "", "", api.Likely{L: "en", ToL: "en", ToS: "latn", ToR: "us"}, true)
		holdLikely(t, "xx", "", "", api.Likely{}, false)
	}
}

// P15.1: what Find and Likely tell is the caller's, too.
func TestOwnThings(t *testing.T) {
	x, _ := data.Find(api.AliasLang, "sh", "")
	x.L, x.S = "hr", ""
	holdFind(t, api.AliasLang, "sh", "", api.Alias{Kind: api.AliasLang, A: "sh", L: "sr", S: "latn"}, true)
	y, _ := data.Likely("zh", "", "")
	y.ToS = "hant"
	holdLikely(t, "zh", "", "", api.Likely{L: "zh", ToL: "zh", ToS: "hans", ToR: "cn"}, true)
	holdImage(t, data.Image(), imageAgain())
}
