package lang

import (
	"strings"

	"catchword/alike"
	"catchword/api"
)

// reader reads the steps of a question by the rules of the grammar, each of which is one of its methods.
type reader struct {
	rest  []token
	depth int // how many sels are begun and not ended
	parts int
	fault api.Errno // the first one; api.OK: none so far
}

// fail is for a fault. Nothing is left behind the first one, so that whatever waits for more comes to its end.
func (r *reader) fail(e api.Errno) {
	if r.fault == api.OK {
		r.fault = e
	}
	r.rest = nil
}

// next is one of the tokens that are left, by how many are ahead of it.
func (r *reader) next(i int) token {
	if i >= len(r.rest) {
		return token{}
	}
	return r.rest[i]
}

// takes goes behind words and signs, if all of them are next.
func (r *reader) takes(words ...string) bool {
	for i, w := range words {
		if !r.next(i).is(w) {
			return false
		}
	}
	r.rest = r.rest[len(words):]
	return true
}

// takesAll is takes of the words of one text.
func (r *reader) takesAll(words string) bool { return r.takes(strings.Fields(words)...) }

// needs goes behind words and signs, which must be next.
func (r *reader) needs(words ...string) {
	if !r.takes(words...) {
		r.fail(api.ErrQuery)
	}
}

// which goes behind that one of some words and signs that is next, as one must be, and is how many of them are ahead of it.
func (r *reader) which(words ...string) int {
	for i, w := range words {
		if r.takes(w) {
			return i
		}
	}
	r.fail(api.ErrQuery)
	return 0
}

// need goes behind a token of some class, which must be next, and is its text.
func (r *reader) need(c class) string {
	t := r.next(0)
	if t.class != c {
		r.fail(api.ErrQuery)
		return ""
	}
	r.rest = r.rest[1:]
	return t.text
}

// question reads all.
func (r *reader) question() []Step {
	all := []Step{r.step(0)}
	for len(r.rest) > 0 {
		all = append(all, r.step(len(all)))
	}
	return all
}

// step reads a step with some ahead of it.
func (r *reader) step(ahead int) Step {
	s := Step{Deep: r.which("/", "//") == 1}
	if ahead == api.MaxParts {
		r.fail(api.ErrMany)
	}
	s.Name = r.name()
	if r.takes("[") {
		r.takes(".")
		r.needs("contains", "text")
		s.Has = []Sel{r.sel()}
		r.needs("]")
	}
	return s
}

// name reads the name of a step.
func (r *reader) name() string {
	if r.takes("*") {
		return "*"
	}
	return strings.Clone(r.need(word))
}

// part is a part of some Kids, if there may be one more.
func (r *reader) part(kind Kind, kids ...Sel) Sel {
	if r.parts == api.MaxParts {
		r.fail(api.ErrMany)
		return Sel{}
	}
	r.parts++
	return Sel{Kind: kind, Kids: kids}
}

func (r *reader) sel() Sel {
	if r.depth == api.MaxDepth {
		r.fail(api.ErrDeep)
		return Sel{}
	}
	r.depth++
	defer r.leave()
	s := r.or()
	for kind := r.filter(); kind != 0; kind = r.filter() {
		s = r.filtered(kind, s)
	}
	return s
}

// leave is for the end of a sel.
func (r *reader) leave() { r.depth-- }

func (r *reader) or() Sel { return r.chain(Or, r.and) }

func (r *reader) and() Sel { return r.chain(And, r.mild) }

func (r *reader) mild() Sel { return r.chain(Mild, r.not) }

// chain reads what is joined by the words of a kind; the left ones are the first Kid of what follows.
func (r *reader) chain(kind Kind, kid func() Sel) Sel {
	s := kid()
	for r.takesAll(called[kind]) {
		s = r.part(kind, s, kid())
	}
	return s
}

func (r *reader) not() Sel {
	if r.takesAll(called[Not]) {
		return r.part(Not, r.prim())
	}
	return r.prim()
}

func (r *reader) prim() Sel {
	if r.takes("(") {
		s := r.sel()
		r.needs(")")
		return s
	}
	s := r.words()
	if r.takesAll(called[Times]) {
		s = r.part(Times, s)
		s.Range = r.span()
		r.needs("times")
	}
	return s
}

// words reads a text and what is said of its words.
func (r *reader) words() Sel {
	text := r.need(quoted)
	s := r.part(Words)
	s.Text = text
	s.Mode = r.mode()
	for r.takes("using") {
		r.option(&s.Opts)
	}
	s.Weight = 1
	if r.takes("weight") {
		r.needs("{")
		s.Weight = r.weight()
		r.needs("}")
	}
	return s
}

// mode reads how the words of a text are asked for, if it is said.
func (r *reader) mode() Mode {
	for m, words := range modes {
		if r.takesAll(words) {
			return Mode(m)
		}
	}
	return Phrase
}

func (r *reader) option(o *alike.Options) {
	switch {
	case r.takes("case"):
		o.Case = r.sensitive()
	case r.takes("diacritics"):
		o.Marks = r.sensitive()
	default:
		r.choose(o, !r.takes("no"))
	}
}

func (r *reader) sensitive() bool { return r.which("sensitive", "insensitive") == 0 }

// choose reads an option that no may stand ahead of.
func (r *reader) choose(o *alike.Options, on bool) {
	switch r.which("stemming", "stop", "wildcards") {
	case 0:
		o.Stem = on
	case 1:
		r.needs("words")
		o.Stop = on
	case 2:
		o.Wild = on
	}
}

// filter reads the words with which a filter begins, and is its kind; 0: there is none.
func (r *reader) filter() Kind {
	for kind := Ordered; kind <= Entire; kind++ {
		if r.takesAll(called[kind]) {
			return kind
		}
	}
	return 0
}

// filtered reads what stands behind the words of a filter.
func (r *reader) filtered(kind Kind, kid Sel) Sel {
	s := r.part(kind, kid)
	switch kind {
	case Window:
		s.N = r.count()
		s.Unit = r.unit()
	case Distance:
		s.Range = r.span()
		s.Unit = r.unit()
	case Same, Apart:
		s.Unit = api.Sentences + api.Unit(r.which(units[api.Sentences], units[api.Paragraphs]))
	}
	return s
}

// unit reads what is counted.
func (r *reader) unit() api.Unit {
	return api.Unit(r.which("words", "sentences", "paragraphs"))
}

// span reads a range.
func (r *reader) span() api.Range {
	switch r.which("exactly", "at", "from") {
	case 0:
		n := r.count()
		return api.Range{Lo: n, Hi: n}
	case 1:
		if r.which("least", "most") == 0 {
			return api.Range{Lo: r.count(), Hi: api.MaxNumber}
		}
		return api.Range{Hi: r.count()}
	}
	s := api.Range{Lo: r.count()}
	r.needs("to")
	s.Hi = r.count()
	return s
}

// count reads a number of digits alone; all that are too great are one.
func (r *reader) count() int {
	text := r.need(number)
	if strings.Contains(text, ".") {
		r.fail(api.ErrQuery)
		return 0
	}
	n := 0
	for _, c := range []byte(text) {
		n = min(10*n+int(c-'0'), api.MaxNumber+1)
	}
	return n
}

// weightDigits is how many digits of a weight count behind its dot.
const weightDigits = 9

// weight reads a number that may have a dot.
func (r *reader) weight() float64 {
	ahead, rest, dot := strings.Cut(r.need(number), ".")
	if dot && (rest == "" || strings.Contains(rest, ".")) {
		r.fail(api.ErrQuery)
		return 0
	}
	w := 0.0
	for _, c := range []byte(ahead) {
		// float64 keeps a machine from reckoning both in one, which would be rounded otherwise.
		w = float64(10*w) + float64(c-'0')
	}
	part := 0.1
	for _, c := range []byte(rest[:min(len(rest), weightDigits)]) {
		w += float64(float64(c-'0') * part)
		part /= 10
	}
	return w
}
