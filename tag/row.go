package tag

import (
	"slices"

	"isogloss/api"
)

// every tells whether all of a row are what fits tells.
func every[T any](row []T, fits func(T) bool) bool {
	return !slices.ContainsFunc(row, func(x T) bool { return !fits(x) })
}

// distinct tells whether no text of a row is there twice.
func distinct(row []string) bool {
	seen := map[string]bool{}
	for _, s := range row {
		seen[s] = true
	}
	return len(seen) == len(row)
}

// sameRow tells whether two rows are as long, and each of one is the same as that of the other one.
func sameRow[T any](a, b []T, same func(a, b T) bool) bool {
	if len(a) != len(b) {
		return false
	}
	for i := range a {
		if !same(a[i], b[i]) {
			return false
		}
	}
	return true
}

// sameText tells whether two texts are the same, as they stand.
func sameText(a, b string) bool { return a == b }

// sameExt tells whether two extensions are the same.
func sameExt(a, b api.Ext) bool { return a.Key == b.Key && sameRow(a.Subs, b.Subs, sameText) }

// copyRow is a row of copies, in new memory; none is none still.
func copyRow[T any](row []T, copied func(T) T) []T {
	if row == nil {
		return nil
	}
	own := make([]T, len(row))
	for i, x := range row {
		own[i] = copied(x)
	}
	return own
}

// copyText is a text: texts never change, so one serves both rows.
func copyText(s string) string { return s }

// copyExt is an extension with a row of its own.
func copyExt(e api.Ext) api.Ext { return api.Ext{Key: e.Key, Subs: copyRow(e.Subs, copyText)} }
