package lang

import "strings"

// class is what a token is.
type class int

// The classes of tokens; none is what stands behind the last one.
const (
	none class = iota
	word
	number
	quoted
	sign
)

// token is the least that a question is made of.
type token struct {
	class class
	text  string // as it stands there; of quoted ones what is between the quotes
}

// is tells whether a token is a word of the grammar, or a sign.
func (t token) is(text string) bool { return t.class != quoted && t.text == text }

// split is the tokens of a text; false: it has something else.
func split(s string) ([]token, bool) {
	var all []token
	for s = behind(s, blank); s != ""; s = behind(s, blank) {
		t, n := first(s)
		if n == 0 {
			return nil, false
		}
		all = append(all, t)
		s = s[n:]
	}
	return all, true
}

// first is the token with which a text begins, and how many bytes it has; 0: it begins with none.
func first(s string) (token, int) {
	switch c := s[0]; {
	case letter(c):
		return run(word, s, inWord)
	case digit(c):
		return run(number, s, inNumber)
	case c == '"' || c == '\'':
		return quote(s)
	case strings.HasPrefix(s, "//"):
		return token{sign, "//"}, 2
	case strings.IndexByte("/*[](){}.", c) >= 0:
		return token{sign, s[:1]}, 1
	}
	return token{}, 0
}

// run is the token of all bytes that go on with it.
func run(c class, s string, in func(byte) bool) (token, int) {
	n := len(s) - len(behind(s, in))
	return token{c, s[:n]}, n
}

// quote is what is between the quotes with which a text begins; 0: they don't end.
func quote(s string) (token, int) {
	mark := s[0]
	var b []byte
	for i := 1; i < len(s); i++ {
		if s[i] == mark {
			i++
			if i == len(s) || s[i] != mark {
				return token{quoted, string(b)}, i
			}
		}
		b = append(b, s[i])
	}
	return token{}, 0
}

// behind is a text behind the bytes of some sort with which it begins.
func behind(s string, in func(byte) bool) string {
	n := 0
	for n < len(s) && in(s[n]) {
		n++
	}
	return s[n:]
}

func blank(c byte) bool { return c == ' ' || c == '\t' || c == '\n' || c == '\r' }

func digit(c byte) bool { return '0' <= c && c <= '9' }

func letter(c byte) bool {
	return 'A' <= c && c <= 'Z' || 'a' <= c && c <= 'z' || c == '_' || c == ':' || c >= 0x80
}

func inWord(c byte) bool { return letter(c) || digit(c) || c == '-' }

func inNumber(c byte) bool { return digit(c) || c == '.' }
