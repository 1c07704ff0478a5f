package tag

import (
	"isogloss/api"
	"isogloss/ascii"
)

// Language tells whether a subtag is a language.
func Language(s string) bool { return sized(s, 2, api.MaxSub, ascii.Alpha) }

// Extlang tells whether a subtag is an extlang.
func Extlang(s string) bool { return sized(s, 3, 3, ascii.Alpha) }

// Script tells whether a subtag is a script.
func Script(s string) bool { return sized(s, 4, 4, ascii.Alpha) }

// Region tells whether a subtag is a region.
func Region(s string) bool {
	return sized(s, 2, 2, ascii.Alpha) || sized(s, 3, 3, ascii.Digit)
}

// Variant tells whether a subtag is a variant.
func Variant(s string) bool {
	return sized(s, 5, api.MaxSub, ascii.Alnum) || sized(s, 4, 4, ascii.Alnum) && ascii.Digit(s[:1])
}

// Singleton tells whether a subtag is a singleton.
func Singleton(s string) bool {
	return sized(s, 1, 1, ascii.Alnum) && !ascii.Same(s, private)
}

// extended tells whether a text may stand behind a singleton.
func extended(s string) bool { return sized(s, 2, api.MaxSub, ascii.Alnum) }

// subtag tells whether a text is a subtag at all.
func subtag(s string) bool { return sized(s, 1, api.MaxSub, ascii.Alnum) }

// sized tells whether a text has from least to most bytes, and is what made tells.
func sized(s string, least, most int, made func(string) bool) bool {
	return least <= len(s) && len(s) <= most && made(s)
}
