package glob_test

import (
	"math/rand"
	"regexp"
	"strings"
	"testing"
	"unicode"

	"catchword/api"
	"catchword/glob"
)

func parsed(t *testing.T, s string) *glob.Glob {
	t.Helper()
	g, e := glob.Parse(s)
	if e != api.OK || g == nil {
		t.Fatalf("Parse of %q: %v", s, e)
	}
	return g
}

// matches is a pattern, words that match, and words that don't.
type matches struct {
	pattern string
	yes, no []string
}

func check(t *testing.T, of []matches) {
	t.Helper()
	for _, m := range of {
		g := parsed(t, m.pattern)
		for _, w := range m.yes {
			if !g.Match(w) {
				t.Errorf("%q doesn't match %q", m.pattern, w)
			}
		}
		for _, w := range m.no {
			if g.Match(w) {
				t.Errorf("%q matches %q", m.pattern, w)
			}
		}
	}
}

func TestParseDotsP41(t *testing.T) {
	check(t, []matches{
		{"d.g", []string{"dog", "dig", "dég", "d.g", "d語g", "d\ng", "d\x00g", "d\ufffdg"}, []string{"dg", "doog", "dog ", " dog", "dot", "og", ""}},
		{"d.?g", []string{"dg", "dog"}, []string{"doog", "d.?g"}},
		{"r.+t", []string{"rat", "roast", "r語t"}, []string{"rt", "r", "rats"}},
		{"d.*", []string{"d", "do", "dogs", "d\n"}, []string{"", "o", "od"}},
		{"x.{0,2}y", []string{"xy", "xay", "xaby"}, []string{"xabcy", "x"}},
		{"a.{2,3}b", []string{"axxb", "axxxb"}, []string{"ab", "axb", "axxxxb"}},
		{".{0,0}", []string{""}, []string{"a"}},
		{"a.{2,2}", []string{"abc"}, []string{"a", "ab", "abcd"}},
		{".{999,999}", []string{strings.Repeat("é", 999)}, []string{strings.Repeat("é", 998), strings.Repeat("é", 1000)}},
		{".{0,999}", []string{"", strings.Repeat("é", 999)}, []string{strings.Repeat("é", 1000)}},
		{".{007,0000000000000000000000000000008}", []string{"1234567", "12345678"}, []string{"123456", "123456789"}},
		{"..", []string{"ab"}, []string{"a", "abc"}},
		{"", []string{""}, []string{"a", " "}},
	})
}

func TestParseOtherSignsP41(t *testing.T) {
	check(t, []matches{
		{`a\.b`, []string{"a.b"}, []string{"axb", `a\.b`, `a\xb`}},
		{`\\`, []string{`\`}, []string{`\\`, ""}},
		{`\n\é\{`, []string{"né{"}, []string{"\né{", `\né{`}},
		{`\..`, []string{".x"}, []string{"x.", "."}},
		{`\.?`, []string{".?"}, []string{"", "."}},
		{`\.{1,2}`, []string{".{1,2}"}, []string{".", ".."}},
		{`.\?`, []string{"x?"}, []string{"x", "", "?"}},
		{"a?", []string{"a?"}, []string{"a", ""}},
		{"a+b*", []string{"a+b*"}, []string{"ab", "aab"}},
		{"{1,2}", []string{"{1,2}"}, nil},
		{"a{", []string{"a{"}, nil},
		{".??", []string{"?", "x?"}, []string{"", "x", "xx"}},
		{".*+", []string{"+", "xx+"}, []string{"", "xx"}},
		{".{1,1}{", []string{"x{"}, []string{"x"}},
		{".{1,2}?", []string{"x?", "xx?"}, []string{"x", "xx", "?"}},
		{".}", []string{"x}"}, []string{"x"}},
	})
}

func TestParseRefusesP41(t *testing.T) {
	for want, texts := range map[api.Errno][]string{
		api.ErrUTF: {
			"\xff", "a\xc3", "\xed\xa0\x80", "\xc0\xae", "\xf4\x90\x80\x80", ".{\xff",
			// That it isn't signs comes ahead of all other faults.
			"\\\xff", ".{2,1}\xff", strings.Repeat("a", 300) + "\xff",
		},
		api.ErrQuery: {
			`\`, `a\`, `\\\`, `.\`, ".{", ".{}", ".{,}", ".{1}", ".{1,}", ".{,1}", ".{1,2", ".{1,2,3}", ".{2,1}", ".{1000,1000}",
			".{0,1000}", ".{1000,0}", ".{0,99999999999999999999999999}", ".{0,18446744073709551617}", ".{-1,1}", ".{+1,1}", ".{ 1,2}", ".{1, 2}", ".{1,2 }", ".{a,b}",
			".{1;2}", ".{1,٢}", ".{0x1,2}", ".{1,2]}", ".{1,,2}", "{1,2}.{", "ab.{2,1}cd", ".{1\\,2}",
			// The first fault from the left is told.
			strings.Repeat("a", 199) + `\`, strings.Repeat("a", 199) + ".{1}", ".{" + strings.Repeat("a", 300), ".{2,1}" + strings.Repeat("a", 300),
		},
		api.ErrMany: {
			strings.Repeat("a", 201), strings.Repeat(".", 201), strings.Repeat(`\a`, 201), strings.Repeat(".*", 201), strings.Repeat(".{1,2}", 201),
			strings.Repeat("a", 201) + `\`, strings.Repeat("é", 201) + ".{", strings.Repeat("a", 200) + ".{1}", strings.Repeat("a", 200) + `\`,
		},
	} {
		for _, s := range texts {
			if g, e := glob.Parse(s); e != want || g != nil {
				t.Errorf("Parse of %q: %v, not %v", s, e, want)
			}
		}
	}
}

func TestParseOfMaxPartsP41(t *testing.T) {
	if glob.MaxParts != 200 {
		t.Error("MaxParts is", glob.MaxParts)
	}
	for part, word := range map[string]string{"a": "a", "é": "é", ".": "語", `\\`: `\`, ".{2,3}": "ab", ".+": "x"} {
		g := parsed(t, strings.Repeat(part, 200))
		if !g.Match(strings.Repeat(word, 200)) || g.Match(strings.Repeat(word, 199)) {
			t.Errorf("200 parts %q", part)
		}
	}
}

func TestMatchOfOtherBytesP42(t *testing.T) {
	for _, s := range []string{".", ".*", ".{0,9}", "\ufffd", "a.*", ".*a"} {
		g := parsed(t, s)
		for _, w := range []string{"\xff", "a\xff", "\xffa", "a\xffa", "\xc3", "\xed\xa0\x80", "a\xc0\x80a"} {
			if g.Match(w) {
				t.Errorf("%q matches %q", s, w)
			}
		}
	}
}

func TestMatchTakesAllWaysP42(t *testing.T) {
	check(t, []matches{
		{".*a.*a.*", []string{"banana", "aa"}, []string{"a", "bnn"}},
		{".?.?.?aaa", []string{"aaa", "aaaa", "aaaaaa"}, []string{"aaaaaaa", "aa"}},
		{".{1,3}b.{0,1}b", []string{"abb", "bbb", "xxbxb", "xxxbb"}, []string{"bb", "xxxxbb", "xbxxb"}},
		{".+.+", []string{"ab", "abc"}, []string{"a", ""}},
		{".*ab", []string{"aab", "abab"}, []string{"aba", "b"}},
		{".{2,4}.{3,5}", []string{"12345", "123456789"}, []string{"1234", "1234567890"}},
	})
	// A way that tries one after another would not end here.
	g := parsed(t, strings.Repeat(".*a", 99)+"b")
	if g.Match(strings.Repeat("a", 20000)) || !g.Match(strings.Repeat("a", 20000)+"b") {
		t.Error("a word of many ways")
	}
	g = parsed(t, strings.Repeat(".{0,999}", 200))
	if !g.Match(strings.Repeat("é", 199800)) || g.Match(strings.Repeat("é", 199801)) {
		t.Error("200 times up to 999 signs")
	}
}

func TestPrefixP42(t *testing.T) {
	for s, want := range map[string]string{
		"": "", "dog": "dog", "inter.*al": "inter", ".*al": "", "é語.?": "é語", `a\.b.c`: "a.b", `a\\.`: `a\`,
		"a?b+": "a?b+", "a{1,2}.{1,2}": "a{1,2}", "ab.{0,0}cd": "ab", "a.b.c": "a", "\x00.": "\x00",
	} {
		if got := parsed(t, s).Prefix(); got != want {
			t.Errorf("Prefix of %q: %q, not %q", s, got, want)
		}
	}
}

func TestMapP42(t *testing.T) {
	g := parsed(t, `dO.{1,2}\G.*`)
	m := g.Map(unicode.ToUpper)
	if m.Prefix() != "DO" || !m.Match("DOxG") || !m.Match("DO..Gs") || m.Match("dOxG") || m.Match("DOG") {
		t.Error("a pattern in great letters")
	}
	if g.Prefix() != "dO" || !g.Match("dOxG") || g.Match("DOxG") {
		t.Error("Map has changed what it was asked of")
	}
	var asked []rune
	parsed(t, `aé.b.?\..{1,2}語`).Map(func(r rune) rune {
		asked = append(asked, r)
		return r
	})
	if string(asked) != "aéb.語" {
		t.Errorf("Map has asked %q", string(asked))
	}
}

func TestMapToOthersP42(t *testing.T) {
	for _, to := range []rune{-1, 0, -1 << 31} {
		m := parsed(t, "a.b").Map(func(rune) rune { return to })
		if !m.Match("\x00x\x00") || m.Match("axb") || m.Match("\x00xx\x00") || m.Prefix() != "\x00" {
			t.Errorf("Map to %d", to)
		}
	}
	// A sign may become a dot, a stroke, a brace: as signs.
	for _, to := range []rune{'.', '\\', '{', '*'} {
		m := parsed(t, "ab").Map(func(rune) rune { return to })
		if w := strings.Repeat(string(to), 2); m.Prefix() != w || !m.Match(w) || m.Match("xy") || m.Match("") {
			t.Errorf("Map to %q", to)
		}
	}
	for _, to := range []rune{0xd800, 0xdfff, 0x110000, 1<<31 - 1} {
		m := parsed(t, "a.*").Map(func(rune) rune { return to })
		if m.Match("a") || m.Match("\ufffd") || m.Match(string(to)) || m.Match("") || m.Prefix() != "" {
			t.Errorf("Map to %x", to)
		}
	}
}

func TestNilP42(t *testing.T) {
	var g *glob.Glob
	m := g.Map(func(r rune) rune { return r })
	if g.Match("") || g.Match("a") || g.Prefix() != "" || m != nil {
		t.Error("a nil Glob")
	}
	if g, e := glob.Parse(""); e != api.OK || g == nil || g.Map(unicode.ToLower) == nil {
		t.Error("the pattern of no text is none")
	}
}

// piece is a part as a pattern and as a regular expression.
type piece struct{ glob, expression string }

func TestMatchAsExpressionsP42(t *testing.T) {
	pieces := []piece{{"a", "a"}, {"b", "b"}, {"é", "é"}, {`\.`, `\.`}, {".", "."}, {".?", ".?"}, {".+", ".+"}, {".*", ".*"},
		{".{0,0}", ".{0,0}"}, {".{1,2}", ".{1,2}"}, {".{2,5}", ".{2,5}"}, {".{0,3}", ".{0,3}"}, {`\b`, "b"}, {"+", `\+`}}
	signs := []string{"a", "a", "b", "b", "é", ".", "+"}
	random := rand.New(rand.NewSource(4))
	yes := 0
	for range 4000 {
		p, x := "", ""
		for range random.Intn(8) {
			i := pieces[random.Intn(len(pieces))]
			// Behind a dot without a count a + is no sign of its own.
			if strings.HasSuffix(p, ".") && !strings.HasSuffix(p, `\.`) && i.glob == "+" {
				continue
			}
			p, x = p+i.glob, x+i.expression
		}
		g, r := parsed(t, p), regexp.MustCompile("^(?s:"+x+")$")
		for range 40 {
			w := ""
			for range random.Intn(9) {
				w += signs[random.Intn(len(signs))]
			}
			got, want := g.Match(w), r.MatchString(w)
			if got != want {
				t.Fatalf("%q of %q: %v, not %v", p, w, got, want)
			}
			if got && !strings.HasPrefix(w, g.Prefix()) {
				t.Fatalf("%q matches %q, but its prefix is %q", p, w, g.Prefix())
			}
			if got {
				yes++
			}
		}
	}
	if yes < 1000 {
		t.Error("too few words matched:", yes)
	}
}
