package check_test

import (
	"strings"
	"testing"

	"isogloss/api"
	"isogloss/check"
	"isogloss/image"
)

// encoded is the bytes of an image that has some.
func encoded(t *testing.T, im api.Image) string {
	t.Helper()
	s, e := image.Encode(im)
	if e != nil {
		t.Fatal(e)
	}
	return s
}

// holdNone holds that bytes are of no image that may be used, and why.
func holdNone(t *testing.T, bytes string, kind api.Errno, place int, what string) {
	t.Helper()
	for range 2 {
		im, e := check.Load(bytes)
		if !same(im, api.Image{}) {
			t.Fatalf("Load(%.500q): %v", bytes, im)
		}
		holdFault(t, e, kind, place, what)
	}
}

// P14.1: the image whose bytes these are, in order.
func TestLoad(t *testing.T) {
	im := api.Image{Aliases: aliases("region su - - - ru", "lang iw - he"), Likely: each([]string{"und - - en latn us", "en - - en latn us"}, likely), Rules: open(), Members: each([]string{"us us", "eu fr"}, member), Threshold: 255, Demote: 1}
	want := api.Image{Aliases: aliases("lang iw - he", "region su - - - ru"), Likely: each([]string{"en - - en latn us", "und - - en latn us"}, likely), Rules: open(), Members: each([]string{"eu fr", "us us"}, member), Threshold: 255, Demote: 1}
	got, e := check.Load(encoded(t, im))
	if e != nil || !same(got, want) {
		t.Errorf("Load: %v, %v, want %v", got, e, want)
	}
	holdRight(t, im)
	holdRight(t, usable())
	holdRight(t, api.Image{Rules: open()})
}

// P14.1: bytes that are no image's.
func TestLoadNone(t *testing.T) {
	s := encoded(t, usable())
	for _, bytes := range []string{"", "i", "isog", "\x00", "\xff", strings.Repeat("\x00", 14), s + "\x00", "\x00" + s, s[:len(s)-1], s[1:], s + s, "ISOG" + s[4:], strings.Repeat("isog", 1<<16)} {
		holdNone(t, bytes, api.ErrForm, 0, "image")
	}
	for size := range len(s) {
		holdNone(t, s[:size], api.ErrForm, 0, "image")
	}
	for at := range len(s) {
		for _, b := range []byte{0, 'a', '*', 0xff} {
			changed := s[:at] + string([]byte{b}) + s[at+1:]
			im, e := image.Decode(changed)
			if e != nil {
				holdNone(t, changed, api.ErrForm, 0, "image")
				continue
			}
			hold(t, im)
		}
	}
}

// P14.1, R2: bytes of an image that may not be used: no image, and why not.
func TestLoadWrong(t *testing.T) {
	holdNone(t, "isog\x00\x00\x00\x00\x00\x00\x00\x00\x00\x00", api.ErrNone, 0, "rule")
	holdNone(t, encoded(t, api.Image{Aliases: aliases("lang iw - he", "lang he - iw")}), api.ErrLoop, 0, "alias")
	// Places are those of the rows that are in order.
	holdNone(t, encoded(t, api.Image{Aliases: aliases("lang xx - su", "lang su - he")}), api.ErrLoop, 1, "alias")
	holdNone(t, encoded(t, api.Image{Aliases: aliases("lang iw - he", "lang aa - bb", "grand 18 - iw")}), api.ErrLoop, 0, "alias")
	im := usable()
	im.Likely = append(im.Likely, likely("de - - fr latn fr"))
	holdNone(t, encoded(t, im), api.ErrNone, 0, "likely")
	im = usable()
	im.Members = im.Members[:2]
	holdNone(t, encoded(t, im), api.ErrNone, 4, "rule")
	im = usable()
	im.Rules = im.Rules[:len(im.Rules)-1]
	holdNone(t, encoded(t, im), api.ErrNone, len(im.Rules), "rule")
	im.Rules = nil
	holdNone(t, encoded(t, im), api.ErrNone, 0, "rule")
}

// R3: what is loaded is the caller's.
func TestOwnImage(t *testing.T) {
	s := encoded(t, usable())
	one, _ := check.Load(s)
	other, _ := check.Load(s)
	one.Aliases[0], one.Likely[0], one.Rules[0], one.Members[0] = api.Alias{}, api.Likely{}, api.Rule{}, api.Member{}
	want, _ := image.Decode(s)
	if again, e := check.Load(s); e != nil || !same(other, want) || !same(again, want) {
		t.Error("an image was changed by another one")
	}
}
