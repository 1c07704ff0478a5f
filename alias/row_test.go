package alias_test

import (
	"math"
	"strings"
	"testing"

	"isogloss/alias"
	"isogloss/api"
)

// filled is texts, each with noughts behind it, up to 8 bytes.
func filled(all ...string) string {
	row := ""
	for _, s := range all {
		row += s + "\x00\x00\x00\x00\x00\x00\x00\x00"[len(s):]
	}
	return row
}

// rowAgain is the row of a right alias, once more.
func rowAgain(x api.Alias) string { return string([]byte{byte(x.Kind)}) + filled(texts(x)...) }

// holdRow holds an alias against its row, both ways.
func holdRow(t *testing.T, x api.Alias, row string) {
	t.Helper()
	for range 2 {
		if got, ok := alias.Encode(x); got != row || !ok {
			t.Errorf("Encode(%s): %q, %v, want %q", show(x), got, ok, row)
		}
		if got, ok := alias.Decode(row); got != x || !ok {
			t.Errorf("Decode(%q): %s, %v, want %s", row, show(got), ok, show(x))
		}
	}
}

// holdNoAlias holds that a row is that of no alias.
func holdNoAlias(t *testing.T, row string) {
	t.Helper()
	if got, ok := alias.Decode(row); got != (api.Alias{}) || ok {
		t.Errorf("Decode(%.100q): %s, %v", row, show(got), ok)
	}
}

// decodedAgain is the alias of a row, once more.
func decodedAgain(row string) (api.Alias, bool) {
	if len(row) != 41 {
		return api.Alias{}, false
	}
	x := api.Alias{Kind: int(row[0])}
	for at := range 5 {
		x = with(x, at, strings.TrimRight(row[1+8*at:9+8*at], "\x00"))
	}
	if !rightAgain(x) {
		return api.Alias{}, false
	}
	return x, true
}

// holdDecoded holds a row against its alias, or that it has none, as decodedAgain tells; what has one is the row of it.
func holdDecoded(t *testing.T, row string) {
	t.Helper()
	want, wantOk := decodedAgain(row)
	got, ok := alias.Decode(row)
	if got != want || ok != wantOk {
		t.Fatalf("Decode(%q): %s, %v, want %s, %v", row, show(got), ok, show(want), wantOk)
	}
	if back, _ := alias.Encode(got); ok && back != row {
		t.Fatalf("Encode(%s): %q, want %q", show(got), back, row)
	}
}

// P12.1: the chapter's example, and one alias of each kind, byte by byte.
func TestRows(t *testing.T) {
	const no = "\x00\x00\x00\x00\x00\x00\x00\x00"
	holdRow(t, api.Alias{Kind: api.AliasLang, A: "iw", L: "he"}, "\x03iw\x00\x00\x00\x00\x00\x00"+no+"he\x00\x00\x00\x00\x00\x00"+no+no)
	holdRow(t, api.Alias{Kind: api.AliasGrand, A: "25", L: "zh", S: "hans", R: "cn"}, "\x0125\x00\x00\x00\x00\x00\x00"+no+"zh\x00\x00\x00\x00\x00\x00hans\x00\x00\x00\x00cn\x00\x00\x00\x00\x00\x00")
	holdRow(t, api.Alias{Kind: api.AliasPair, A: "sgn", B: "br", L: "bzs"}, "\x02sgn\x00\x00\x00\x00\x00br\x00\x00\x00\x00\x00\x00bzs\x00\x00\x00\x00\x00"+no+no)
	holdRow(t, api.Alias{Kind: api.AliasLang, A: "sh", L: "sr", S: "latn"}, "\x03sh\x00\x00\x00\x00\x00\x00"+no+"sr\x00\x00\x00\x00\x00\x00latn\x00\x00\x00\x00"+no)
	holdRow(t, api.Alias{Kind: api.AliasLang, A: "cnr", L: "sr", R: "me"}, "\x03cnr\x00\x00\x00\x00\x00"+no+"sr\x00\x00\x00\x00\x00\x00"+no+"me\x00\x00\x00\x00\x00\x00")
	holdRow(t, api.Alias{Kind: api.AliasScript, A: "qaai", S: "zinh"}, "\x04qaai\x00\x00\x00\x00"+no+no+"zinh\x00\x00\x00\x00"+no)
	holdRow(t, api.Alias{Kind: api.AliasRegion, A: "840", R: "us"}, "\x05840\x00\x00\x00\x00\x00"+no+no+no+"us\x00\x00\x00\x00\x00\x00")
	holdRow(t, api.Alias{Kind: api.AliasVariant, A: "heploc", L: "alalc97"}, "\x06heploc\x00\x00"+no+"alalc97\x00"+no+no)
	holdRow(t, api.Alias{Kind: api.AliasVariant, A: "heploc"}, "\x06heploc\x00\x00"+no+no+no+no)
	holdRow(t, api.Alias{Kind: api.AliasType, A: "ca", B: "islamicc", L: "civil"}, "\x07ca\x00\x00\x00\x00\x00\x00islamicccivil\x00\x00\x00"+no+no)
	holdRow(t, api.Alias{Kind: api.AliasType, A: "a1", B: "12345678", L: "abcdefgh"}, "\x07a1\x00\x00\x00\x00\x00\x0012345678abcdefgh"+no+no)
	for _, x := range someRight() {
		holdRow(t, x, rowAgain(x))
	}
}

// P12.1: only what is as long as a row is one.
func TestLengths(t *testing.T) {
	holdNoAlias(t, "")
	for _, x := range someRight() {
		row := rowAgain(x)
		for size := range len(row) {
			holdNoAlias(t, row[:size])
			holdNoAlias(t, row[size+1:])
		}
		for _, more := range []string{"\x00", "a", "\xff", "\x00\x00", filled(""), row, strings.Repeat("\x00", 255), strings.Repeat("\x00", 1<<16), strings.Repeat("a", 1<<22)} {
			holdNoAlias(t, row+more)
			holdNoAlias(t, more+row)
		}
	}
	for size := range 100 {
		holdNoAlias(t, strings.Repeat("\x00", size))
		holdNoAlias(t, strings.Repeat("a", size))
		holdNoAlias(t, strings.Repeat("\xff", size))
	}
}

// P12.1: rows of kinds that no alias has, or of texts that none of that kind has.
func TestWrongRows(t *testing.T) {
	for _, x := range someRight() {
		for kind := range 256 {
			if x.Kind != kind {
				holdDecoded(t, string([]byte{byte(kind)})+filled(texts(x)...))
			}
		}
	}
	for _, row := range []string{
		// Noughts ahead of letters, and between them.
		"\x03" + filled("\x00iw", "", "he", "", ""), "\x03" + filled("i\x00w", "", "he", "", ""), "\x03" + filled("iw\x00a", "", "he", "", ""), "\x03" + filled("iw", "", "\x00\x00he", "", ""), "\x03" + filled("\x00\x00\x00\x00\x00\x00iw", "", "he", "", ""), "\x03" + filled("iw", "", "he\x00\x00\x00\x00\x00a", "", ""),
		// What is empty has just noughts.
		"\x03" + filled("iw", "\x00a", "he", "", ""), "\x03" + filled("iw", "\x00\x00\x00\x00\x00\x00\x00\x01", "he", "", ""), "\x06" + filled("heploc", "", "", "", "\x01"), "\x03" + filled("iw", "", "he", "\x00latn", ""),
		// Great letters.
		"\x03" + filled("IW", "", "he", "", ""), "\x03" + filled("iw", "", "hE", "", ""), "\x03" + filled("sh", "", "sr", "Latn", ""), "\x07" + filled("ca", "islamicC", "civil", "", ""),
		// What can be packed, and is no subtag; what can't.
		"\x03" + filled("*", "", "he", "", ""), "\x05" + filled("$us", "", "", "", "us"), "\x03" + filled("iw", "", "h!", "", ""), "\x03" + filled("i-w", "", "he", "", ""), "\x03" + filled("\xe1\xe2", "", "he", "", ""), "\x06" + filled("heploc\xff", "", "", "", ""), "\x03" + filled("é", "", "he", "", ""),
		// Wrong by the kind alone.
		"\x01" + filled("26", "", "en", "", ""), "\x01" + filled("3", "", "en", "", ""), "\x01" + filled("003", "", "en", "", ""), "\x03" + filled("iw", "", "", "", ""), "\x02" + filled("sgn", "", "ase", "", ""), "\x04" + filled("qaai", "", "zinh", "", ""), "\x00" + filled("iw", "", "he", "", ""), "\x08" + filled("iw", "", "he", "", ""), "\x83" + filled("iw", "", "he", "", ""), "3" + filled("iw", "", "he", "", ""),
	} {
		holdDecoded(t, row)
		holdNoAlias(t, row)
	}
}

// P12.1: rows that are not those of right aliases in one byte, or in two that are neighbours.
func TestBytesOfRows(t *testing.T) {
	for _, x := range someRight() {
		row := rowAgain(x)
		for at := range len(row) {
			for b := range 256 {
				changed := []byte(row)
				changed[at] = byte(b)
				holdDecoded(t, string(changed))
			}
			for _, two := range []string{"\x00\x00", "\x00a", "a\x00", "aa", "zz", "11", "1\x00", "\x001", "AA", "\xffa"} {
				if at+2 <= len(row) {
					holdDecoded(t, row[:at]+two+row[at+2:])
				}
			}
		}
	}
}

// P12.1, R2: an alias that is not right has no row, of whatever kind it is; the zero one has none.
func TestNoRow(t *testing.T) {
	for _, x := range []api.Alias{
		{}, {Kind: 0, A: "en"}, {Kind: 8, A: "iw", L: "he"}, {Kind: 259, A: "iw", L: "he"}, {Kind: -253, A: "iw", L: "he"}, {Kind: math.MinInt + 3, A: "iw", L: "he"}, {Kind: 1<<32 + 3, A: "iw", L: "he"},
		{Kind: 3, A: "IW", L: "he"}, {Kind: 3, A: "iw", L: "HE"}, {Kind: 3, A: "iw\x00", L: "he"}, {Kind: 3, A: "iw", B: "\x00", L: "he"}, {Kind: 3, A: "iw", L: "he", R: "US"}, {Kind: 3, A: "*", L: "he"},
	} {
		if row, ok := alias.Encode(x); row != "" || ok {
			t.Errorf("Encode(%s): %q, %v", show(x), row, ok)
		}
	}
}
