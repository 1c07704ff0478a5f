package ascii

// Marks of a byte.
const (
	great = 1 << iota
	letter
	digit
)

// shift is how far a small letter is behind the great one.
const shift = 'a' - 'A'

// marks tells what a byte is; a great letter is a letter, too.
func marks(b byte) int {
	m := 0
	switch {
	case 'A' <= b && b <= 'Z':
		m |= great
		fallthrough
	case 'a' <= b && b <= 'z':
		m |= letter
	case '0' <= b && b <= '9':
		m |= digit
	}
	return m
}

// marked makes what asks whether a byte has one of such marks.
func marked(wanted int) func(byte) bool {
	return func(b byte) bool { return marks(b)&wanted != 0 }
}

// small is a byte, or the small letter in the place of a great one.
func small(b byte) byte {
	if marks(b)&great != 0 {
		return b + shift
	}
	return b
}

// large is a byte, or the great letter in the place of a small one.
func large(b byte) byte {
	if marks(b) == letter {
		return b - shift
	}
	return b
}
