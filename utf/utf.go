// Package utf is layer 2: see shared/doc/02-utf.md.
package utf

import "unicode/utf8"

// Next is the first sign of a text, and how many bytes it has; 0: the text begins with none.
func Next(s string) (rune, int) {
	r, n := utf8.DecodeRuneInString(s)
	// The library tells RuneError of wrong bytes, too, but of the true sign by that number three bytes.
	if r == utf8.RuneError && n < 2 {
		return 0, 0
	}
	return r, n
}

// Right tells whether a text has signs alone.
func Right(s string) bool { return utf8.ValidString(s) }

// Put lays a sign; none, if there is no such sign.
func Put(b []byte, r rune) []byte {
	// The library would lay RuneError for what is no sign.
	if !utf8.ValidRune(r) {
		return b
	}
	return utf8.AppendRune(b, r)
}

// Low is a sign as a small letter, where it is a great one of the first 384.
func Low(r rune) rune {
	switch {
	case within(r, 'A', 'Z'), within(r, 0xc0, 0xde) && r != 0xd7:
		return r + 32
	case pairedByEven(r) && r%2 == 0, pairedByOdd(r) && r%2 == 1:
		return r + 1
	case r == 0x178:
		return 0xff
	}
	return r
}

// pairedByEven tells whether a sign is in a row of pairs whose great letters are the even ones.
func pairedByEven(r rune) bool {
	return within(r, 0x100, 0x137) && r != 0x130 || within(r, 0x14a, 0x177)
}

// pairedByOdd tells whether a sign is in a row of pairs whose great letters are the odd ones.
func pairedByOdd(r rune) bool {
	return within(r, 0x139, 0x148) || within(r, 0x179, 0x17e)
}

// firstMarked is the sign whose letter is the first one of unmarked.
const firstMarked = 0xc0

// unmarked has the letters without marks, by their signs; a dash, where there is none.
const unmarked = "AAAAAA-CEEEEIIII-NOOOOO--UUUUY--aaaaaa-ceeeeiiii-nooooo--uuuuy-y" +
	"AaAaAaCcCcCcCcDd--EeEeEeEeEeGgGgGgGgHh--IiIiIiIi----JjKk-LlLlLl--" +
	"--NnNnNn---OoOoOo--RrRrRrSsSsSsSsTtTt--UuUuUuUuUuUuWwYyYZzZzZz-"

// Plain is a letter without its marks, where it is one of the first 384.
func Plain(r rune) rune {
	if !within(r, firstMarked, firstMarked+rune(len(unmarked))-1) {
		return r
	}
	letter := unmarked[r-firstMarked]
	if letter == '-' {
		return r
	}
	return rune(letter)
}

// Letter tells whether a sign belongs to a word: letters and digits of the first 128, and all signs from aa on but a few.
func Letter(r rune) bool {
	switch {
	case r < 0x80:
		return within(r, '0', '9') || within(r, 'A', 'Z') || within(r, 'a', 'z')
	case r < 0xc0:
		return r == 0xaa || r == 0xb5 || r == 0xba
	case r == 0xd7, r == 0xf7:
		return false
	}
	return !within(r, 0x2000, 0x206f) && !within(r, 0x3000, 0x3004) && !within(r, 0x3008, 0x3020)
}

// Map is a text with each sign as something makes it; what is no sign stays.
func Map(s string, f func(rune) rune) string {
	b := make([]byte, 0, len(s))
	for len(s) > 0 {
		r, n := Next(s)
		if n == 0 {
			b = append(b, s[0])
			s = s[1:]
			continue
		}
		b = Put(b, f(r))
		s = s[n:]
	}
	return string(b)
}

// within tells whether a number is from one to another one, both counted.
func within(r, from, to rune) bool { return from <= r && r <= to }
