package lang_test

import (
	"fmt"
	"math/rand"
	"regexp"
	"strings"
	"testing"

	"catchword/alike"
	"catchword/api"
	"catchword/lang"
)

// maker makes questions, each as parts and as one of the texts that are these.
type maker struct {
	*rand.Rand
	parts int // how many are left
}

// pick is one of some texts.
func (m *maker) pick(texts ...string) string { return texts[m.Intn(len(texts))] }

// number is a number, and one of its texts.
func (m *maker) number() (int, string) {
	n := []int{m.Intn(10), m.Intn(1000), api.MaxNumber - 1 + m.Intn(3)}[m.Intn(3)]
	if n > api.MaxNumber {
		return n, m.pick("", "0") + fmt.Sprint(n+m.Intn(3)*m.Intn(1<<30))
	}
	return n, m.pick("", "0", "000") + fmt.Sprint(n)
}

// span is a range, and one of its texts.
func (m *maker) span() (api.Range, string) {
	a, first := m.number()
	b, second := m.number()
	switch m.Intn(4) {
	case 0:
		return api.Range{Lo: a, Hi: a}, "exactly " + first
	case 1:
		return api.Range{Lo: a, Hi: api.MaxNumber}, "at least " + first
	case 2:
		return api.Range{Hi: a}, "at most " + first
	}
	return api.Range{Lo: a, Hi: b}, "from " + first + " to " + second
}

// words is Words, and one of their texts.
func (m *maker) words() (lang.Sel, string) {
	m.parts--
	s := text(m.pick("dog", "", "it's", `a"b`, "''", `""`, "x y", "é", "ftor", "(", "//"))
	mark := m.pick("'", `"`)
	out := mark + strings.ReplaceAll(s.Text, mark, mark+mark) + mark
	s.Mode = lang.Mode(m.Intn(3))
	switch s.Mode {
	case lang.Phrase:
		out += m.pick("", " phrase")
	case lang.Any:
		out += " any word"
	case lang.All:
		out += " all words"
	}
	for range m.Intn(4) {
		out += " using " + m.option(&s.Opts)
	}
	if m.Intn(3) == 0 {
		thousandths := []int{0, 1, 500, 999, 1000, 1234, 2500, 1000000000, m.Intn(1000000)}[m.Intn(9)]
		digits := fmt.Sprintf("%03d", thousandths%1000)
		s.Weight = tenths(fmt.Sprint(thousandths/1000), digits)
		out += fmt.Sprintf(" weight {%d.%s%s}", thousandths/1000, digits, m.pick("", "0", "000000"))
	}
	return s, out
}

// option says one more of options.
func (m *maker) option(o *alike.Options) string {
	on := m.Intn(2) == 0
	no, in := map[bool]string{true: "", false: "no "}[on], map[bool]string{true: "sensitive", false: "insensitive"}[on]
	switch m.Intn(5) {
	case 0:
		o.Case = on
		return "case " + in
	case 1:
		o.Marks = on
		return "diacritics " + in
	case 2:
		o.Stem = on
		return no + "stemming"
	case 3:
		o.Stop = on
		return no + "stop words"
	}
	o.Wild = on
	return no + "wildcards"
}

// How tight a text of a part binds: as sel, or, and, mild, not, prim; what binds less is put in brackets.
const (
	asSel = iota
	asOr
	asAnd
	asMild
	asNot
	asPrim
)

// sel is a part of at most so many others in each other, and one of its texts that binds so tight.
func (m *maker) sel(depth, tight int) (lang.Sel, string) {
	s, out, is := m.part(depth)
	for is < tight || m.Intn(8) == 0 {
		out, is = "("+out+")", asPrim
	}
	return s, out
}

// join is a part of two Kids.
func (m *maker) join(kind lang.Kind, depth int, word string, is int) (lang.Sel, string, int) {
	m.parts--
	a, first := m.sel(depth-1, is)
	b, second := m.sel(depth-1, is+1)
	return of(kind, a, b), first + " " + word + " " + second, is
}

// part is a part, one of its texts, and how tight that binds.
func (m *maker) part(depth int) (lang.Sel, string, int) {
	if depth == 0 || m.parts < 4 {
		s, out := m.words()
		return s, out, asPrim
	}
	switch m.Intn(8) {
	case 0:
		return m.join(lang.Or, depth, "ftor", asOr)
	case 1:
		return m.join(lang.And, depth, "ftand", asAnd)
	case 2:
		return m.join(lang.Mild, depth, "not in", asMild)
	case 3:
		m.parts--
		a, out := m.sel(depth-1, asPrim)
		return of(lang.Not, a), "ftnot " + out, asNot
	case 4:
		m.parts--
		a, out := m.words()
		r, span := m.span()
		return lang.Sel{Kind: lang.Times, Kids: []lang.Sel{a}, Range: r}, out + " occurs " + span + " times", asPrim
	case 5, 6:
		m.parts--
		a, out := m.sel(depth-1, asSel)
		s, filter := m.filter()
		s.Kids = []lang.Sel{a}
		return s, out + " " + filter, asSel
	}
	s, out := m.words()
	return s, out, asPrim
}

// filter is a filter without its Kid, and one of its texts.
func (m *maker) filter() (lang.Sel, string) {
	unit := m.Intn(3)
	name := []string{"words", "sentences", "paragraphs"}[unit]
	switch m.Intn(8) {
	case 0:
		return lang.Sel{Kind: lang.Ordered}, "ordered"
	case 1:
		n, digits := m.number()
		return lang.Sel{Kind: lang.Window, N: n, Unit: api.Unit(unit)}, "window " + digits + " " + name
	case 2:
		r, span := m.span()
		return lang.Sel{Kind: lang.Distance, Range: r, Unit: api.Unit(unit)}, "distance " + span + " " + name
	case 3:
		return lang.Sel{Kind: lang.Same, Unit: api.Sentences}, "same sentence"
	case 4:
		return lang.Sel{Kind: lang.Apart, Unit: api.Paragraphs}, "different paragraph"
	case 5:
		return lang.Sel{Kind: lang.First}, "at start"
	case 6:
		return lang.Sel{Kind: lang.Last}, "at end"
	}
	return lang.Sel{Kind: lang.Entire}, "entire content"
}

// question is steps, and one of their texts.
func (m *maker) question() ([]lang.Step, string) {
	var steps []lang.Step
	out := ""
	for range 1 + m.Intn(4) {
		s := lang.Step{Deep: m.Intn(2) == 0, Name: m.pick("a", "b-1", "*", "contains", "é:x")}
		out += map[bool]string{true: "//", false: "/"}[s.Deep] + s.Name
		if m.Intn(2) == 0 {
			sel, is := m.sel(m.Intn(6), asSel)
			s.Has = []lang.Sel{sel}
			out += "[" + m.pick("", ".") + "contains text " + is + "]"
		}
		steps = append(steps, s)
	}
	return steps, out
}

// blanks is a text with more blanks between its tokens.
func (m *maker) blanks(s string) string {
	return tokens.ReplaceAllStringFunc(s, func(token string) string {
		return m.pick("", "", " ", "\n\t", "\r") + token + m.pick("", "", " ")
	})
}

// tokens is what a question is made of.
var tokens = regexp.MustCompile(`'(?:[^']|'')*'|"(?:[^"]|"")*"|[A-Za-z_:\x{80}-\x{10ffff}][A-Za-z_:0-9\x{80}-\x{10ffff}-]*|[0-9][0-9.]*|//|[/*\[\](){}.]`)

// asText is a part as text, by the promise.
func asText(s lang.Sel) string {
	kid := func(i int) string { return asText(s.Kids[i]) }
	unit := []string{"word", "sentence", "paragraph"}[s.Unit]
	span := fmt.Sprintf("from %d to %d", s.Range.Lo, s.Range.Hi)
	if s.Range.Hi == api.MaxNumber {
		span = fmt.Sprintf("at least %d", s.Range.Lo)
	}
	switch s.Kind {
	case lang.Words:
		out := `"` + strings.ReplaceAll(s.Text, `"`, `""`) + `"` + []string{"", " any word", " all words"}[s.Mode]
		for i, on := range []bool{s.Opts.Case, s.Opts.Marks, s.Opts.Stem, s.Opts.Stop, s.Opts.Wild} {
			if on {
				out += " using " + []string{"case sensitive", "diacritics sensitive", "stemming", "stop words", "wildcards"}[i]
			}
		}
		if s.Weight != 1 {
			out += fmt.Sprintf(" weight {%.3f}", s.Weight)
		}
		return out
	case lang.Times:
		return fmt.Sprintf("%s occurs %s times", kid(0), span)
	case lang.Or:
		return fmt.Sprintf("(%s ftor %s)", kid(0), kid(1))
	case lang.And:
		return fmt.Sprintf("(%s ftand %s)", kid(0), kid(1))
	case lang.Mild:
		return fmt.Sprintf("(%s not in %s)", kid(0), kid(1))
	case lang.Not:
		return fmt.Sprintf("(ftnot %s)", kid(0))
	case lang.Window:
		return fmt.Sprintf("(%s window %d %ss)", kid(0), s.N, unit)
	case lang.Distance:
		return fmt.Sprintf("(%s distance %s %ss)", kid(0), span, unit)
	case lang.Same:
		return fmt.Sprintf("(%s same %s)", kid(0), unit)
	case lang.Apart:
		return fmt.Sprintf("(%s different %s)", kid(0), unit)
	}
	return fmt.Sprintf("(%s %s)", kid(0), map[lang.Kind]string{lang.Ordered: "ordered", lang.First: "at start", lang.Last: "at end", lang.Entire: "entire content"}[s.Kind])
}

func TestParseP131Oracle(t *testing.T) {
	m := &maker{Rand: rand.New(rand.NewSource(13))}
	for range 8000 {
		m.parts = 90
		want, s := m.question()
		s = m.blanks(s)
		steps, e := lang.Parse(s)
		if e != api.OK || !sameSteps(steps, want) {
			t.Fatalf("%s: got %v and error %v, want %v", s, steps, e, want)
		}
		out := ""
		for _, step := range steps {
			out += map[bool]string{true: "//", false: "/"}[step.Deep] + step.Name
			for _, sel := range step.Has {
				if got, want := sel.Print(), asText(sel); got != want {
					t.Fatalf("%s: got %s, want %s", s, got, want)
				}
				out += "[. contains text " + asText(sel) + "]"
			}
		}
		if got := lang.Text(steps); got != out {
			t.Fatalf("%s: got %s, want %s", s, got, out)
		}
		parses(t, out, want...)
	}
}

// The grammar as regular expressions, of tokens with a blank ahead of each: T is a text, N a number without a dot, W one with a dot in it, D other ones, P a sel in brackets.
const (
	spanRule   = `( exactly N| at least N| at most N| from N to N)`
	optionRule = `( (case|diacritics) (sensitive|insensitive)|( no)?( stemming| stop words| wildcards))`
	primRule   = `( P| T( any word| all words| phrase)?( using` + optionRule + `)*( weight \{( N| W) \})?( occurs` + spanRule + ` times)?)`
	notRule    = `(( ftnot)?` + primRule + `)`
	mildRule   = `(` + notRule + `( not in` + notRule + `)*)`
	andRule    = `(` + mildRule + `( ftand` + mildRule + `)*)`
	orRule     = `(` + andRule + `( ftor` + andRule + `)*)`
	unitRule   = `( words| sentences| paragraphs)`
	filterRule = `( ordered| window N` + unitRule + `| distance` + spanRule + unitRule + `| (same|different) (sentence|paragraph)| at start| at end| entire content)`
	selRule    = `(` + orRule + filterRule + `*)`
	stepRule   = `( (/|//) ([^ ]*[a-z:é][^ ]*|\*)( \[( \.)? contains text` + selRule + ` \])?)`
)

var (
	bracketed = regexp.MustCompile(` \(` + selRule + ` \)`)
	whole     = regexp.MustCompile(`^` + stepRule + `+$`)
)

// right tells whether tokens are a question, by the grammar.
func right(all []string) bool {
	s := ""
	for _, token := range all {
		switch c := token[0]; {
		case c == '\'' || c == '"':
			s += " T"
		case '0' <= c && c <= '9':
			s += " " + numberSort(token)
		default:
			s += " " + token
		}
	}
	for {
		less := bracketed.ReplaceAllString(s, " P")
		if less == s {
			return whole.MatchString(s)
		}
		s = less
	}
}

// numberSort is what a token of digits and dots is.
func numberSort(token string) string {
	switch {
	case !strings.Contains(token, "."):
		return "N"
	case regexp.MustCompile(`^[0-9]+\.[0-9]+$`).MatchString(token):
		return "W"
	}
	return "D"
}

func TestParseP131Grammar(t *testing.T) {
	m := &maker{Rand: rand.New(rand.NewSource(131))}
	count := map[bool]int{}
	for range 10000 {
		m.parts = 12
		_, s := m.question()
		all := tokens.FindAllString(s, -1)
		for range m.Intn(3) {
			i, j := m.Intn(len(all)), m.Intn(len(all))
			switch m.Intn(5) {
			case 0:
				all[i], all[j] = all[j], all[i]
			case 1:
				all[i] = all[j]
			case 2:
				all = append(all[:i], all[i+1:]...)
			case 3:
				all = append(all[:i], append([]string{all[j]}, all[i:]...)...)
			case 4:
				all[i] = m.pick("'x'", "5", "2.5", "2.", "1.2.3", "ftor", "ftand", "not", "in", "ftnot", "(", ")", "any", "word", "all", "words", "at", "same", "sentence", "no", "stemming", "stop", "using", "*", "a", "/", "//", ".", "[", "]", "text", "times", "ordered", "}")
			}
			if len(all) == 0 {
				break
			}
		}
		want := api.Errno(api.ErrQuery)
		if right(all) {
			want = api.OK
		}
		count[want == api.OK]++
		s = strings.Join(all, " ")
		if _, e := lang.Parse(s); e != want {
			t.Fatalf("%s: error %v, want %v", s, e, want)
		}
	}
	if count[true] < 2000 || count[false] < 2000 {
		t.Errorf("%d right ones and %d wrong ones", count[true], count[false])
	}
}

func TestParseP131TokensOracle(t *testing.T) {
	r := rand.New(rand.NewSource(1313))
	all := regexp.MustCompile(`^(?:[ \t\n\r]|` + tokens.String() + `)*$`)
	count := map[bool]int{}
	pieces := []string{"'", "'", "''", `"`, `"`, `""`, "a", "5", ".", "-", " ", "/", "//", "*", "[", "(", "é", "_", ":", "#", "\n", "ftor", "x"}
	for range 10000 {
		s := ""
		for range r.Intn(8) {
			s += pieces[r.Intn(len(pieces))]
		}
		// Behind as many steps, one more is ErrMany where all is tokens, and ErrQuery where it isn't.
		s += " "
		isTokens := all.MatchString(s)
		count[isTokens]++
		want := api.Errno(api.ErrQuery)
		if isTokens {
			want = api.ErrMany
		}
		many := strings.Repeat("/a", api.MaxParts+1) + " "
		if _, e := lang.Parse(many + s); e != want {
			t.Fatalf("%q: error %v, want %v", s, e, want)
		}
	}
	if count[true] < 1000 || count[false] < 1000 {
		t.Errorf("%d right ones and %d wrong ones", count[true], count[false])
	}
}
