package image

import (
	"isogloss/alias"
	"isogloss/api"
	"isogloss/pack"
)

// reader has the bytes that are still to be read.
type reader struct{ left string }

// take takes off the next bytes, so many, or what is left.
func (r *reader) take(size int) string {
	size = min(size, len(r.left))
	next := r.left[:size]
	r.left = r.left[size:]
	return next
}

// unpacked is what can be read of an image's bytes; what can't is left out.
func unpacked(bytes string) api.Image {
	r := &reader{left: bytes}
	take := r.take
	var im api.Image
	var counts [4]int
	take(len(start))
	for kind := range counts {
		counts[kind] = number(take, countSize)
	}
	im.Threshold = number(take, smallSize)
	im.Demote = number(take, smallSize)
	// Else a few bytes could ask for a great many rows.
	if len(r.left) != counts[0]*aliasSize+counts[1]*likelySize+counts[2]*ruleSize+counts[3]*memberSize {
		return im
	}
	im.Aliases = things(counts[0], func() (x api.Alias) {
		x, _ = alias.Decode(take(aliasSize))
		return x
	})
	im.Likely = things(counts[1], func() (x api.Likely) {
		fill(likelyTexts(&x), take)
		return x
	})
	im.Rules = things(counts[2], func() (x api.Rule) {
		x.Level, x.Cost, x.OneWay = number(take, smallSize), number(take, smallSize), number(take, smallSize) == 1
		fill(ruleTexts(&x), take)
		return x
	})
	im.Members = things(counts[3], func() (x api.Member) {
		fill(memberTexts(&x), take)
		return x
	})
	return im
}

// things are so many things, each the next one.
func things[T any](count int, next func() T) []T {
	var all []T
	for range count {
		all = append(all, next())
	}
	return all
}

// number is the number of the next bytes.
func number(take func(size int) string, size int) int {
	n, _ := pack.Get(take(size), 0, size)
	return int(n)
}

// fill puts the next packed texts to their places.
func fill(texts []*string, take func(size int) string) {
	for _, text := range texts {
		n, _ := pack.Get(take(textSize), 0, textSize)
		*text, _ = pack.Unpack(n)
	}
}
