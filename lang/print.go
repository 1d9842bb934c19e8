package lang

import (
	"strconv"
	"strings"

	"catchword/api"
)

// Print is a part as text, in brackets.
func (s Sel) Print() string { return string(s.lay(nil)) }

// Text is a question as text.
func Text(steps []Step) string {
	var b []byte
	for _, s := range steps {
		b = append(b, '/')
		if s.Deep {
			b = append(b, '/')
		}
		b = append(b, s.Name...)
		for _, has := range s.Has {
			b = append(b, "[. contains text "...)
			b = has.lay(b)
			b = append(b, ']')
		}
	}
	return string(b)
}

// lay lays a part as text behind bytes, so that those nested deep aren't laid again and again.
func (s Sel) lay(b []byte) []byte {
	switch s.Kind {
	case Words:
		return s.layWords(b)
	case Times:
		b = join(s.layKid(b, 0), " ", called[Times], " ")
		return join(layRange(b, s.Range), " times")
	}
	return append(s.layInner(append(b, '(')), ')')
}

// layInner lays what is between the brackets of a part.
func (s Sel) layInner(b []byte) []byte {
	switch s.Kind {
	case Or, And, Mild:
		b = join(s.layKid(b, 0), " ", called[s.Kind], " ")
		return s.layKid(b, 1)
	case Not:
		return s.layKid(join(b, called[Not], " "), 0)
	case Ordered, First, Last, Entire:
		return join(s.layKid(b, 0), " ", called[s.Kind])
	case Window:
		b = join(s.layKid(b, 0), " ", called[Window], " ", strconv.Itoa(s.N))
		return join(b, " ", s.unit(), "s")
	case Distance:
		b = join(s.layKid(b, 0), " ", called[Distance], " ")
		return join(layRange(b, s.Range), " ", s.unit(), "s")
	case Same, Apart:
		return join(s.layKid(b, 0), " ", called[s.Kind], " ", s.unit())
	}
	return b
}

// layKid lays one of a part's Kids, if it is there.
func (s Sel) layKid(b []byte, i int) []byte {
	if i >= len(s.Kids) {
		return b
	}
	return s.Kids[i].lay(b)
}

// layWords lays a text and what is said of its words.
func (s Sel) layWords(b []byte) []byte {
	b = join(b, `"`, strings.ReplaceAll(s.Text, `"`, `""`), `"`)
	if s.Mode == Any || s.Mode == All {
		b = join(b, " ", modes[s.Mode])
	}
	b = s.layOptions(b)
	if s.Weight != 1 {
		b = join(b, " weight {", thousandths(s.Weight), "}")
	}
	return b
}

// layOptions lays the options that are on.
func (s Sel) layOptions(b []byte) []byte {
	for i, on := range [...]bool{s.Opts.Case, s.Opts.Marks, s.Opts.Stem, s.Opts.Stop, s.Opts.Wild} {
		if on {
			b = join(b, " using ", options[i])
		}
	}
	return b
}

// layRange lays a range.
func layRange(b []byte, r api.Range) []byte {
	if r.Hi == api.MaxNumber {
		return join(b, "at least ", strconv.Itoa(r.Lo))
	}
	return join(b, "from ", strconv.Itoa(r.Lo), " to ", strconv.Itoa(r.Hi))
}

// unit is the name of a part's unit, or of the nearest one.
func (s Sel) unit() string { return units[min(max(s.Unit, api.Words), api.Paragraphs)] }

// mostWeight is the greatest weight that is told.
const mostWeight = 1000000

// thousandths is a weight with three digits behind the dot; one that isn't told is 0.
func thousandths(w float64) string {
	n := 0
	if 0 <= w && w <= mostWeight {
		// float64 keeps a machine from reckoning both in one, which would be rounded otherwise.
		n = int(float64(1000*w) + 0.5)
	}
	digits := strconv.Itoa(1000 + n%1000)
	return strconv.Itoa(n/1000) + "." + digits[1:]
}

// join lays texts behind bytes.
func join(b []byte, texts ...string) []byte {
	for _, t := range texts {
		b = append(b, t...)
	}
	return b
}
