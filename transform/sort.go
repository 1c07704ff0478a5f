package transform

import (
	"slices"
	"strings"
)

// byKey is what things are sorted by.
type byKey[T any] struct {
	// key tells the text by which a thing stands.
	key func(T) string
}

// compare tells how a thing stands to another one, byte by byte.
func (by byKey[T]) compare(a, b T) int { return strings.Compare(by.key(a), by.key(b)) }

// sorted is a new row of the same things, by rising keys; those of one key stay as they stood.
func sorted[T any](row []T, by byKey[T]) []T {
	out := append([]T(nil), row...)
	slices.SortStableFunc(out, by.compare)
	return out
}
