package utf_test

import (
	"math"
	"slices"
	"strings"
	"testing"
	"unicode"

	"catchword/utf"
)

// lay is the document's rule for a sign's bytes, written out.
func lay(r rune) string {
	tail := func(shift int) byte { return 0x80 | byte(r>>shift)&0x3f }
	switch {
	case r < 0x80:
		return string([]byte{byte(r)})
	case r < 0x800:
		return string([]byte{0xc0 | byte(r>>6), tail(0)})
	case r < 0x10000:
		return string([]byte{0xe0 | byte(r>>12), tail(6), tail(0)})
	}
	return string([]byte{0xf0 | byte(r>>18), tail(12), tail(6), tail(0)})
}

func sign(r rune) bool { return r >= 0 && r <= 0x10ffff && (r < 0xd800 || r > 0xdfff) }

// wrong are texts that begin with no sign's bytes.
var wrong = []string{
	"", "\x80", "\xbf", "\x80a",
	"\xc0\x80", "\xc1\xbf", "\xc3", "\xc3a", "\xc3\xc3",
	"\xe0\x80\x80", "\xe0\x9f\xbf", "\xe2\x82", "\xe2\x82a", "\xe2", "\xe2a\x82",
	"\xed\xa0\x80", "\xed\xbf\xbf",
	"\xf0\x80\x80\x80", "\xf0\x8f\xbf\xbf", "\xf0\x9f\x98", "\xf0\x9f\x98a", "\xf4\x90\x80\x80",
	"\xf5\x80\x80\x80", "\xf8\x88\x80\x80\x80", "\xfe", "\xff",
}

func TestSignsP21(t *testing.T) {
	for r := rune(-0x100); r <= 0x110100; r++ {
		s := ""
		if r >= 0 {
			s = lay(r)
		}
		if !sign(r) {
			if got := utf.Put([]byte("ab"), r); string(got) != "ab" {
				t.Fatalf("Put of %x: %x", r, got)
			}
			if got, n := utf.Next(s); got != 0 || n != 0 || r >= 0 && utf.Right(s) {
				t.Fatalf("%x is read as %x, %d", s, got, n)
			}
			continue
		}
		if got := utf.Put([]byte("ab"), r); string(got) != "ab"+s {
			t.Fatalf("Put of %x: %x", r, got)
		}
		if got, n := utf.Next(s + "\xff"); got != r || n != len(s) {
			t.Fatalf("Next of %x: %x, %d", s, got, n)
		}
		if !utf.Right(s) {
			t.Fatalf("%x isn't Right", s)
		}
	}
}

func TestPutOfNoSignP21(t *testing.T) {
	for _, r := range []rune{-1, math.MinInt32, 0xd800, 0xdbff, 0xdc00, 0xdfff, 0x110000, math.MaxInt32} {
		if got := utf.Put(nil, r); len(got) != 0 {
			t.Errorf("Put of %x: %x", r, got)
		}
	}
}

func TestNextOfNoSignP21(t *testing.T) {
	for _, s := range wrong {
		if r, n := utf.Next(s); r != 0 || n != 0 {
			t.Errorf("Next of %x: %x, %d", s, r, n)
		}
	}
	if r, n := utf.Next("\x00"); r != 0 || n != 1 {
		t.Error("the sign 0 has a byte:", r, n)
	}
}

func TestNextTakesNoSecondFormP21(t *testing.T) {
	for first := range 256 {
		for second := range 256 {
			for _, behind := range []string{"", "\x80", "\xbf", "a", "\x80\x80", "\xbf\xbf"} {
				s := string([]byte{byte(first), byte(second)}) + behind
				if r, n := utf.Next(s); n > 0 && (!sign(r) || lay(r) != s[:n]) {
					t.Fatalf("Next of %x: %x, %d", s, r, n)
				}
			}
		}
	}
}

func TestRightP21(t *testing.T) {
	for _, s := range []string{"", "a", "aé€😀", "\x00", "\xef\xbf\xbd"} {
		if !utf.Right(s) {
			t.Errorf("%x isn't Right", s)
		}
	}
	for _, s := range wrong[1:] {
		for _, text := range []string{s, "a" + s, "é" + s + "b"} {
			if utf.Right(text) {
				t.Errorf("%x is Right", text)
			}
		}
	}
}

func TestLowP22(t *testing.T) {
	for r := rune(-0x400); r < 0x180; r++ {
		want := r
		if r >= 0 && r != 0x130 { // the one great letter that the document leaves out
			want = unicode.ToLower(r)
		}
		if got := utf.Low(r); got != want {
			t.Errorf("Low of %x: %x, not %x", r, got, want)
		}
	}
	for _, r := range []rune{0x180, 0x181, 0x391, 0x410, 0x1e9e, 0xd800, 0x10ffff, 0x110000, math.MaxInt32, math.MinInt32} {
		if got := utf.Low(r); got != r {
			t.Errorf("Low of %x: %x", r, got)
		}
	}
}

// marked are for each letter those that it is without their marks.
var marked = map[rune]string{
	'A': "ÀÁÂÃÄÅĀĂĄ", 'a': "àáâãäåāăą",
	'C': "ÇĆĈĊČ", 'c': "çćĉċč",
	'D': "Ď", 'd': "ď",
	'E': "ÈÉÊËĒĔĖĘĚ", 'e': "èéêëēĕėęě",
	'G': "ĜĞĠĢ", 'g': "ĝğġģ",
	'H': "Ĥ", 'h': "ĥ",
	'I': "ÌÍÎÏĨĪĬĮ", 'i': "ìíîïĩīĭį",
	'J': "Ĵ", 'j': "ĵ",
	'K': "Ķ", 'k': "ķ",
	'L': "ĹĻĽ", 'l': "ĺļľ",
	'N': "ÑŃŅŇ", 'n': "ñńņň",
	'O': "ÒÓÔÕÖŌŎŐ", 'o': "òóôõöōŏő",
	'R': "ŔŖŘ", 'r': "ŕŗř",
	'S': "ŚŜŞŠ", 's': "śŝşš",
	'T': "ŢŤ", 't': "ţť",
	'U': "ÙÚÛÜŨŪŬŮŰŲ", 'u': "ùúûüũūŭůűų",
	'W': "Ŵ", 'w': "ŵ",
	'Y': "ÝŶŸ", 'y': "ýÿŷ",
	'Z': "ŹŻŽ", 'z': "źżž",
}

func TestPlainP22(t *testing.T) {
	plain := map[rune]rune{}
	for letter, those := range marked {
		for _, r := range those {
			plain[r] = letter
		}
	}
	for r := rune(-0x400); r < 0x400; r++ {
		want, ok := plain[r]
		if !ok {
			want = r
		}
		if got := utf.Plain(r); got != want {
			t.Errorf("Plain of %x: %x, not %x", r, got, want)
		}
	}
	for _, r := range []rune{0x1e00, 0xd800, 0x10ffff, 0x110000, math.MaxInt32, math.MinInt32} {
		if got := utf.Plain(r); got != r {
			t.Errorf("Plain of %x: %x", r, got)
		}
	}
	if got := utf.Plain(utf.Low(0xc9)); got != 'e' {
		t.Errorf("Plain of Low of c9: %x", got)
	}
}

func TestLetterP22(t *testing.T) {
	few := "0123456789ABCDEFGHIJKLMNOPQRSTUVWXYZabcdefghijklmnopqrstuvwxyz\u00aa\u00b5\u00ba"
	for r := rune(0); r < 0xc0; r++ {
		if got := utf.Letter(r); got != strings.ContainsRune(few, r) {
			t.Errorf("Letter of %x: %v", r, got)
		}
	}
	for r := rune(0xc0); r < 0x4000; r++ {
		want := r != 0xd7 && r != 0xf7 && (r < 0x2000 || r > 0x206f) && (r < 0x3000 || r > 0x3004) && (r < 0x3008 || r > 0x3020)
		if got := utf.Letter(r); got != want {
			t.Errorf("Letter of %x: %v", r, got)
		}
	}
	for _, r := range []rune{-1, -'a', math.MinInt32} {
		if utf.Letter(r) {
			t.Errorf("Letter of %x", r)
		}
	}
	for _, r := range []rune{0x4e00, 0xd800, 0xdfff, 0xfffd, 0x1f600, 0x10ffff, 0x110000, math.MaxInt32} {
		if !utf.Letter(r) {
			t.Errorf("%x is no Letter", r)
		}
	}
}

func TestMapP23(t *testing.T) {
	same := func(r rune) rune { return r }
	for _, s := range []string{"", "aé€😀", "\x00", "\xef\xbf\xbd", "a\xffb", "\xe2\x82", "\xe2\x82é", "\xed\xa0\x80x"} {
		if got := utf.Map(s, same); got != s {
			t.Errorf("Map of %x: %x", s, got)
		}
	}
	if got := utf.Map("RÉSUMÉ\xff Ÿ\x80", utf.Low); got != "résumé\xff ÿ\x80" {
		t.Errorf("%q", got)
	}
	if got := utf.Map("résumé", utf.Plain); got != "resume" {
		t.Errorf("%q", got)
	}
	if got := utf.Map("a\xc3b\xe2\x82c", func(r rune) rune { return 0x1f600 }); got != "😀\xc3😀\xe2\x82😀" {
		t.Errorf("%q", got)
	}
}

func TestMapToNoSignP23(t *testing.T) {
	for _, no := range []rune{-1, 0xd800, 0x110000} {
		drop := func(r rune) rune {
			if r == 'b' {
				return no
			}
			return r
		}
		if got := utf.Map("abc\xffb", drop); got != "ac\xff" {
			t.Errorf("%x: %q", no, got)
		}
	}
}

func TestMapAsksFromTheLeftP23(t *testing.T) {
	var asked []rune
	utf.Map("a\xffé\xe2\x82b\xef\xbf\xbd😀", func(r rune) rune {
		asked = append(asked, r)
		return r
	})
	if want := []rune{'a', 0xe9, 'b', 0xfffd, 0x1f600}; !slices.Equal(asked, want) {
		t.Errorf("asked of %x, not %x", asked, want)
	}
}
