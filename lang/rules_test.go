package lang_test

import (
	"math"
	"strconv"
	"strings"
	"testing"

	"catchword/alike"
	"catchword/api"
	"catchword/lang"
)

func TestParseP131Example(t *testing.T) {
	and := of(lang.And, text("dog"), text("cat"))
	window := lang.Sel{Kind: lang.Window, Kids: []lang.Sel{and}, N: 5, Unit: api.Words}
	parses(t, `//book/title[. contains text "dog" ftand "cat" window 5 words]`,
		lang.Step{Deep: true, Name: "book"}, lang.Step{Name: "title", Has: []lang.Sel{window}})
}

func TestParseP131Modes(t *testing.T) {
	for s, want := range map[string]lang.Mode{"": lang.Phrase, " phrase": lang.Phrase, " any word": lang.Any, " all words": lang.All} {
		selects(t, "'x y'"+s, lang.Sel{Kind: lang.Words, Text: "x y", Mode: want, Weight: 1})
	}
	for _, s := range []string{
		"any", "all", "any words", "all word", "any 'word'", "word", "words", "any all words", "any word all words", "phrase any word", "any word phrase",
		"phrase phrase", "any word word", "Any word", "each word", "any ftor 'y'", "all ftor 'y'", "all ordered", "any using stemming",
		"any word any word", "any wordx", "anyword", "weight {2} any word", "using stemming any word", "occurs exactly 1 times phrase",
	} {
		fails(t, has("'x' "+s), api.ErrQuery)
	}
	fails(t, has("('x') any word"), api.ErrQuery)
	fails(t, has("any word 'x'"), api.ErrQuery)
}

func TestParseP131Options(t *testing.T) {
	for s, want := range map[string]alike.Options{
		"case sensitive":         {Case: true},
		"case insensitive":       {},
		"diacritics sensitive":   {Marks: true},
		"diacritics insensitive": {},
		"stemming":               {Stem: true},
		"no stemming":            {},
		"stop words":             {Stop: true},
		"no stop words":          {},
		"wildcards":              {Wild: true},
		"no wildcards":           {},

		"case sensitive using case sensitive":   {Case: true},
		"case sensitive using case insensitive": {},
		"case insensitive using case sensitive": {Case: true},
		"diacritics sensitive using stemming":   {Marks: true, Stem: true},
		"stemming using no stemming":            {},
		"no stemming using stemming":            {Stem: true},
		"stemming using stemming":               {Stem: true},
		"stop words using no stop words":        {},
		"no stop words using stop words":        {Stop: true},
		"wildcards using no wildcards":          {},
		"no wildcards using wildcards":          {Wild: true},
		"wildcards using no stemming":           {Wild: true},
		"case sensitive using diacritics sensitive using stemming using stop words using wildcards": {Case: true, Marks: true, Stem: true, Stop: true, Wild: true},
		"wildcards using stop words using stemming using diacritics sensitive using case sensitive": {Case: true, Marks: true, Stem: true, Stop: true, Wild: true},
		"stemming using no stemming using case sensitive using stemming using case insensitive":     {Stem: true},
		"diacritics insensitive using diacritics sensitive using diacritics insensitive":            {},
	} {
		selects(t, "'x' using "+s, lang.Sel{Kind: lang.Words, Text: "x", Opts: want, Weight: 1})
		selects(t, "'x' all words using "+s+" weight {2}", lang.Sel{Kind: lang.Words, Text: "x", Mode: lang.All, Opts: want, Weight: 2})
	}
	for _, s := range []string{
		"using", "using case", "using diacritics", "using sensitive", "using insensitive", "using case stemming", "using no case sensitive",
		"using no diacritics insensitive", "using no", "using no no stemming", "using stop", "using no stop", "using stop word", "using wildcard",
		"using stemming stemming", "using stemming, wildcards", "stemming", "using using stemming", "using stemming using", "using case sensitive insensitive",
		"using words", "using Stemming", "using 'stemming'", "using phrase", "no stemming", "using case in sensitive",
	} {
		fails(t, has("'x' "+s), api.ErrQuery)
	}
	fails(t, has("('x') using stemming"), api.ErrQuery)
}

// tenths is a weight as the chapter reckons it, by its digits ahead of the dot and those behind it.
func tenths(ahead, behind string) float64 {
	w := 0.0
	for i := range ahead {
		digit, _ := strconv.ParseFloat(ahead[i:i+1], 64)
		w *= 10
		w += digit
	}
	place := 0.1
	for i := range behind {
		if i < 9 {
			digit, _ := strconv.ParseFloat(behind[i:i+1], 64)
			digit *= place
			w += digit
			place /= 10
		}
	}
	return w
}

func TestParseP131Weights(t *testing.T) {
	for s, want := range map[string]float64{
		"0": 0, "1": 1, "2": 2, "10": 10, "007": 7, "1000": 1000, "2.5": 2.5, "0.5": 0.5, "0.0": 0, "1.0": 1, "00.50": 0.5, "3.000": 3, "1.25": tenths("1", "25"),
		"0.123456789": tenths("0", "123456789"), "0.3": tenths("0", "3"), "0.03": tenths("0", "03"), "0.7": tenths("0", "7"), "0.999": tenths("0", "999"),
		"0.1234567891": tenths("0", "123456789"), "0.1234567899999": tenths("0", "123456789"), "0.0000000009": 0, "0.0000000010": tenths("0", "000000001"),
		"1048576": 1048576, "1048577": 1048577, "1048578": 1048578, "99999999.5": 99999999.5, "1000000.001": tenths("1000000", "001"),
		"123456789012345678901234567890": tenths("123456789012345678901234567890", ""), "9007199254740993": tenths("9007199254740993", ""),
		"1" + strings.Repeat("0", 308): tenths("1"+strings.Repeat("0", 308), ""), "1" + strings.Repeat("0", 400): math.Inf(1),
		"9" + strings.Repeat("9", 400) + ".9": math.Inf(1), strings.Repeat("0", 400) + "1." + strings.Repeat("0", 400) + "1": 1,
	} {
		selects(t, "'x' weight {"+s+"}", lang.Sel{Kind: lang.Words, Text: "x", Weight: want})
		selects(t, "'x' weight { "+s+" }", lang.Sel{Kind: lang.Words, Text: "x", Weight: want})
	}
	for _, s := range []string{
		"{1.}", "{.5}", "{1.2.3}", "{1..2}", "{1.2.}", "{1..}", "{.}", "{}", "{-1}", "{'1'}", "{one}", "{1 .5}", "{1. 5}", "{1 2}", "{1,5}", "{1e3}", "{1", "1}", "1", "(1)", "",
		"{1} weight {1}", "{1} using stemming", "{{1}}", "{1}}", "{0.}", "{0..0}",
	} {
		fails(t, has("'x' weight "+s), api.ErrQuery)
	}
	fails(t, has("('x') weight {1}"), api.ErrQuery)
	fails(t, has("weight {1} 'x'"), api.ErrQuery)
}

// numbers is texts of digits, and what they count as.
func numbers() map[string]int {
	return map[string]int{
		"0": 0, "1": 1, "9": 9, "10": 10, "007": 7, "000": 0, "12345": 12345,
		"1048575": 1048575, "1048576": 1048576, "1048577": 1048577, "1048578": 1048577, "0001048576": 1048576, "2097152": 1048577, "9999999": 1048577,
		"4294967296": 1048577, "9223372036854775807": 1048577, "9223372036854775808": 1048577, "18446744073709551616": 1048577, "18446744073709551617": 1048577,
		"36893488147419103233": 1048577, strings.Repeat("9", 5000): 1048577, "1" + strings.Repeat("0", 5000): 1048577, strings.Repeat("0", 5000) + "3": 3,
	}
}

func TestParseP131Numbers(t *testing.T) {
	for s, n := range numbers() {
		kid := []lang.Sel{text("x")}
		selects(t, "'x' window "+s+" words", lang.Sel{Kind: lang.Window, Kids: kid, N: n})
		for phrase, want := range map[string]api.Range{
			"exactly " + s:            {Lo: n, Hi: n},
			"at least " + s:           {Lo: n, Hi: api.MaxNumber},
			"at most " + s:            {Lo: 0, Hi: n},
			"from " + s + " to 7":     {Lo: n, Hi: 7},
			"from 7 to " + s:          {Lo: 7, Hi: n},
			"from " + s + " to " + s:  {Lo: n, Hi: n},
			"from 0 to " + s:          {Lo: 0, Hi: n},
			"from 1048577 to " + s:    {Lo: 1048577, Hi: n},
			"from " + s + " to 99999": {Lo: n, Hi: 99999},
		} {
			selects(t, "'x' occurs "+phrase+" times", lang.Sel{Kind: lang.Times, Kids: kid, Range: want})
			selects(t, "'x' distance "+phrase+" words", lang.Sel{Kind: lang.Distance, Kids: kid, Range: want})
		}
	}
	for _, n := range []string{"1.5", "1.", "1..", "0.0", "1.2.3", ".5", ".", "-1", "x", "'1'", "", "{1}", "(1)", "1 2", "one"} {
		fails(t, has("'x' window "+n+" words"), api.ErrQuery)
		for _, r := range []string{"exactly " + n, "at least " + n, "at most " + n, "from " + n + " to 3", "from 3 to " + n} {
			fails(t, has("'x' occurs "+r+" times"), api.ErrQuery)
			fails(t, has("'x' distance "+r+" words"), api.ErrQuery)
		}
	}
}

func TestParseP131Ranges(t *testing.T) {
	for _, r := range []string{
		"", "3", "exactly", "least 3", "most 3", "at 3", "at least", "at most", "at exactly 3", "at start", "from 3", "from 3 to", "from to 3", "to 3", "3 to 4",
		"from 3 4", "exactly 3 to 4", "at least 3 to 4", "exactly 3 exactly 3", "from 1 to 2 to 3", "Exactly 3", "more than 3",
	} {
		fails(t, has("'x' occurs "+r+" times"), api.ErrQuery)
		fails(t, has("'x' distance "+r+" words"), api.ErrQuery)
	}
	for _, s := range []string{
		"occurs", "occurs exactly 3", "occurs exactly 3 time", "occurs exactly 3 words", "exactly 3 times", "occurs times", "occurs exactly 3 times times",
		"occurs exactly 3 times occurs exactly 3 times", "occurs exactly 3 times weight {2}", "occurs exactly 3 times using stemming",
	} {
		fails(t, has("'x' "+s), api.ErrQuery)
	}
	fails(t, has("('x') occurs exactly 3 times"), api.ErrQuery)
	fails(t, has("'x' ordered occurs exactly 3 times"), api.ErrQuery)
	dog := lang.Sel{Kind: lang.Words, Text: "dog", Mode: lang.Any, Opts: alike.Options{Stem: true}, Weight: 0.5}
	selects(t, "'dog' any word using stemming weight {0.5} occurs at least 2 times", lang.Sel{Kind: lang.Times, Kids: []lang.Sel{dog}, Range: api.Range{Lo: 2, Hi: api.MaxNumber}})
}

// filters is each filter's words, and the part of a Kid that they make.
func filters() map[string]lang.Sel {
	return map[string]lang.Sel{
		"ordered":                          {Kind: lang.Ordered},
		"window 5 words":                   {Kind: lang.Window, N: 5},
		"window 0 sentences":               {Kind: lang.Window, Unit: api.Sentences},
		"window 1048576 paragraphs":        {Kind: lang.Window, N: 1048576, Unit: api.Paragraphs},
		"distance exactly 3 words":         {Kind: lang.Distance, Range: api.Range{Lo: 3, Hi: 3}},
		"distance at least 1 sentences":    {Kind: lang.Distance, Range: api.Range{Lo: 1, Hi: api.MaxNumber}, Unit: api.Sentences},
		"distance at most 9 paragraphs":    {Kind: lang.Distance, Range: api.Range{Hi: 9}, Unit: api.Paragraphs},
		"distance from 2 to 4 words":       {Kind: lang.Distance, Range: api.Range{Lo: 2, Hi: 4}},
		"distance from 4 to 2 sentences":   {Kind: lang.Distance, Range: api.Range{Lo: 4, Hi: 2}, Unit: api.Sentences},
		"same sentence":                    {Kind: lang.Same, Unit: api.Sentences},
		"same paragraph":                   {Kind: lang.Same, Unit: api.Paragraphs},
		"different sentence":               {Kind: lang.Apart, Unit: api.Sentences},
		"different paragraph":              {Kind: lang.Apart, Unit: api.Paragraphs},
		"at start":                         {Kind: lang.First},
		"at end":                           {Kind: lang.Last},
		"entire content":                   {Kind: lang.Entire},
		"distance from 1048577 to 0 words": {Kind: lang.Distance, Range: api.Range{Lo: 1048577}},
	}
}

func TestParseP131Filters(t *testing.T) {
	for one, first := range filters() {
		first.Kids = []lang.Sel{of(lang.Or, text("x"), text("y"))}
		selects(t, "'x' ftor 'y' "+one, first)
		selects(t, "('x' ftor 'y') "+one, first)
		for two, second := range filters() {
			second.Kids = []lang.Sel{first}
			selects(t, "'x' ftor 'y' "+one+" "+two, second)
			selects(t, "('x' ftor 'y' "+one+") "+two, second)
			selects(t, "'x' ftor 'y' "+one+" "+two+" "+one, func() lang.Sel {
				third := first
				third.Kids = []lang.Sel{second}
				return third
			}())
		}
		fails(t, has(one), api.ErrQuery)
		fails(t, has(one+" 'x'"), api.ErrQuery)
		fails(t, has("'x' "+one+" ftor 'y'"), api.ErrQuery)
		fails(t, has("'x' "+one+" ftand 'y'"), api.ErrQuery)
		fails(t, has("'x' "+one+" not in 'y'"), api.ErrQuery)
		fails(t, has("'x' "+one+" any word"), api.ErrQuery)
		// Each word of a filter must be there, and no other.
		words := strings.Fields(one)
		for i := range words {
			without := strings.Join(append(append([]string{}, words[:i]...), words[i+1:]...), " ")
			if without != "" {
				fails(t, has("'x' "+without), api.ErrQuery)
			}
			twice := strings.Join(append(append([]string{}, words[:i+1]...), words[i:]...), " ")
			if one != "ordered" {
				fails(t, has("'x' "+twice), api.ErrQuery)
			}
		}
	}
	for _, s := range []string{
		"same word", "same words", "same sentences", "different paragraphs", "different word", "window 5 word", "window 5 sentence", "window words 5",
		"window exactly 5 words", "distance 5 words", "distance exactly 5", "distance exactly 5 paragraph", "distance words exactly 5", "at", "at middle", "start", "end",
		"at the start", "entire", "content", "entire sentence", "entire content content", "order", "Ordered", "window", "window 5", "same", "different", "unordered", "apart sentence",
	} {
		fails(t, has("'x' "+s), api.ErrQuery)
	}
}

func TestParseP131Binding(t *testing.T) {
	a, b, c, d := text("a"), text("b"), text("c"), text("d")
	for s, want := range map[string]lang.Sel{
		"'a'":                                     a,
		"('a')":                                   a,
		"((('a')))":                               a,
		"'a' ftor 'b'":                            of(lang.Or, a, b),
		"'a' ftand 'b'":                           of(lang.And, a, b),
		"'a' not in 'b'":                          of(lang.Mild, a, b),
		"ftnot 'a'":                               of(lang.Not, a),
		"'a' ftor 'b' ftor 'c'":                   of(lang.Or, of(lang.Or, a, b), c),
		"'a' ftor ('b' ftor 'c')":                 of(lang.Or, a, of(lang.Or, b, c)),
		"'a' ftand 'b' ftand 'c' ftand 'd'":       of(lang.And, of(lang.And, of(lang.And, a, b), c), d),
		"'a' ftand ('b' ftand 'c')":               of(lang.And, a, of(lang.And, b, c)),
		"'a' not in 'b' not in 'c'":               of(lang.Mild, of(lang.Mild, a, b), c),
		"'a' not in ('b' not in 'c')":             of(lang.Mild, a, of(lang.Mild, b, c)),
		"'a' ftor 'b' ftand 'c'":                  of(lang.Or, a, of(lang.And, b, c)),
		"'a' ftand 'b' ftor 'c'":                  of(lang.Or, of(lang.And, a, b), c),
		"('a' ftor 'b') ftand 'c'":                of(lang.And, of(lang.Or, a, b), c),
		"'a' ftand ('b' ftor 'c')":                of(lang.And, a, of(lang.Or, b, c)),
		"'a' ftand 'b' not in 'c'":                of(lang.And, a, of(lang.Mild, b, c)),
		"'a' not in 'b' ftand 'c'":                of(lang.And, of(lang.Mild, a, b), c),
		"'a' not in ('b' ftand 'c')":              of(lang.Mild, a, of(lang.And, b, c)),
		"('a' ftand 'b') not in 'c'":              of(lang.Mild, of(lang.And, a, b), c),
		"'a' ftor 'b' not in 'c' ftand 'd'":       of(lang.Or, a, of(lang.And, of(lang.Mild, b, c), d)),
		"'a' ftand 'b' ftor 'c' ftand 'd'":        of(lang.Or, of(lang.And, a, b), of(lang.And, c, d)),
		"'a' ftand ('b' ftor 'c') ftand 'd'":      of(lang.And, of(lang.And, a, of(lang.Or, b, c)), d),
		"ftnot 'a' ftor 'b'":                      of(lang.Or, of(lang.Not, a), b),
		"ftnot ('a' ftor 'b')":                    of(lang.Not, of(lang.Or, a, b)),
		"'a' ftand ftnot 'b'":                     of(lang.And, a, of(lang.Not, b)),
		"ftnot 'a' not in ftnot 'b'":              of(lang.Mild, of(lang.Not, a), of(lang.Not, b)),
		"ftnot (ftnot 'a')":                       of(lang.Not, of(lang.Not, a)),
		"ftnot (((ftnot ('a'))))":                 of(lang.Not, of(lang.Not, a)),
		"ftnot 'a' ftand 'b' ordered":             of(lang.Ordered, of(lang.And, of(lang.Not, a), b)),
		"'a' ftor ('b' ordered)":                  of(lang.Or, a, of(lang.Ordered, b)),
		"('a' ordered) ftor 'b'":                  of(lang.Or, of(lang.Ordered, a), b),
		"'a' ftor 'b' ordered at end":             of(lang.Last, of(lang.Ordered, of(lang.Or, a, b))),
		"('a' at start at end) ftand 'b' ordered": of(lang.Ordered, of(lang.And, of(lang.Last, of(lang.First, a)), b)),
		"ftnot ('a' entire content)":              of(lang.Not, of(lang.Entire, a)),
	} {
		selects(t, s, want)
	}
	times := lang.Sel{Kind: lang.Times, Kids: []lang.Sel{a}, Range: api.Range{Lo: 2, Hi: 2}}
	selects(t, "ftnot 'a' occurs exactly 2 times ftor 'b'", of(lang.Or, of(lang.Not, times), b))
	selects(t, "'b' not in 'a' occurs exactly 2 times", of(lang.Mild, b, times))
	for _, s := range []string{
		"", "()", "(())", "('a'", "'a')", "('a'))", "(('a')", ")'a'(", "'a' 'b'", "('a')('b')", "'a' ('b')", "ftor", "'a' ftor", "ftor 'a'", "'a' ftor ftor 'b'", "'a' ftand", "ftand 'a'",
		"'a' ftand ftor 'b'", "'a' not", "'a' not in", "'a' in 'b'", "'a' not 'b'", "not in 'a'", "'a' not not in 'b'", "'a' ftnot 'b'", "'a' notin 'b'", "ftnot", "ftnot ftnot 'a'", "ftnot ftor 'a'",
		"'a' or 'b'", "'a' and 'b'", "not 'a'", "'a' ftor 'b' 'c'", "('a' ftor) 'b'", "'a' (ftor 'b')", "[ 'a' ]", "{ 'a' }", "'a' / 'b'", "'a' * 'b'", "'a' . 'b'", "ordered ('a')",
	} {
		fails(t, has(s), api.ErrQuery)
	}
}

// within is a text in so many brackets.
func within(n int, s string) string { return strings.Repeat("(", n) + s + strings.Repeat(")", n) }

func TestParseP131Depth(t *testing.T) {
	selects(t, within(api.MaxDepth-1, "'x'"), text("x"))
	fails(t, has(within(api.MaxDepth, "'x'")), api.ErrDeep)
	fails(t, has(within(api.MaxDepth+1, "'x'")), api.ErrDeep)
	fails(t, has(within(20000, "'x'")), api.ErrDeep)
	// Brackets side by side aren't in each other, and no step is in another.
	side := within(api.MaxDepth-1, "'x'")
	selects(t, side+" ftor "+side, of(lang.Or, text("x"), text("x")))
	selects(t, "('x') ftand "+within(api.MaxDepth-2, side[:1]+"'y'"+side[len(side)-1:]), of(lang.And, text("x"), text("y")))
	step := lang.Step{Name: "a", Has: []lang.Sel{text("x")}}
	parses(t, has(side)+has(side)+has(side), step, step, step)
	fails(t, has(side)+has("("+side+")"), api.ErrDeep)
	fails(t, has(side+" ftor ("+side+")"), api.ErrDeep)
	// Not and filters bring no sel into another one.
	selects(t, within(api.MaxDepth-1, "ftnot 'x' ordered"), of(lang.Ordered, of(lang.Not, text("x"))))
	selects(t, "ftnot ("+within(api.MaxDepth-2, "'x'")+") ordered at end", of(lang.Last, of(lang.Ordered, of(lang.Not, text("x")))))
	fails(t, has("ftnot ("+side+") ordered"), api.ErrDeep)
}

// chain is so many texts joined by ftor: so many parts, and one less.
func chain(n int) string { return strings.Repeat("'x' ftor ", n-1) + "'x'" }

func TestParseP131Parts(t *testing.T) {
	most := text("x")
	for range api.MaxParts - 1 {
		most = of(lang.Ordered, most)
	}
	all := "'x'" + strings.Repeat(" ordered", api.MaxParts-1)
	selects(t, all, most)
	fails(t, has(all+" ordered"), api.ErrMany)
	fails(t, has("'y' ftor ("+all+")"), api.ErrMany)
	fails(t, has("ftnot ("+all+")"), api.ErrMany)
	// Each kind of part counts, with what it is made of.
	for s, parts := range map[string]int{
		"'x'": 1, "ftnot 'x'": 2, "'x' occurs exactly 2 times": 2, "'x' any word using stemming weight {2}": 1, "'x' ftand 'y'": 3, "'x' ftor 'y'": 3, "'x' not in 'y'": 3, "(('x'))": 1,
		"'x' ordered": 2, "'x' window 3 words": 2, "'x' distance exactly 3 words": 2, "'x' same sentence": 2, "'x' different sentence": 2, "'x' at start": 2, "'x' at end": 2, "'x' entire content": 2,
		chain(50): 99, "ftnot " + "(" + chain(50) + ")": 100, "('x' ftand 'x') not in (ftnot 'x' ordered)": 7,
	} {
		// What it lacks is made up by filters.
		fill := strings.Repeat(" at end", api.MaxParts-parts)
		if steps, e := lang.Parse(has("(" + s + ")" + fill)); e != api.OK || len(steps) != 1 {
			t.Errorf("%s: error %v", s, e)
		}
		fails(t, has("("+s+")"+fill+" at end"), api.ErrMany)
		// The parts of all steps count.
		if parts < api.MaxParts {
			rest := "/b[contains text 'x'" + strings.Repeat(" at end", api.MaxParts-parts-1)
			if steps, e := lang.Parse(has(s) + rest + "]"); e != api.OK || len(steps) != 2 {
				t.Errorf("%s: error %v", s, e)
			}
			fails(t, has(s)+rest+" at end]", api.ErrMany)
		}
	}
	fails(t, has(chain(51)), api.ErrMany)
	fails(t, has("ftnot "+within(1, "ftnot "+within(1, chain(50)))), api.ErrMany)
	one := lang.Step{Name: "a", Has: []lang.Sel{text("x")}}
	hundred := strings.Repeat("/a[contains text 'x']", api.MaxParts)
	steps, e := lang.Parse(hundred)
	if e != api.OK || len(steps) != api.MaxParts || !sameSteps(steps[:1], []lang.Step{one}) || !sameSteps(steps[1:], steps[:api.MaxParts-1]) {
		t.Errorf("got %v and error %v", steps, e)
	}
	fails(t, strings.Replace(hundred, "'x'", "ftnot 'x'", 1), api.ErrMany)
}

func TestParseP131FirstFault(t *testing.T) {
	tooDeep := within(api.MaxDepth, "'x'")
	tooMany := chain(51)
	manySteps := strings.Repeat("/s", api.MaxParts+1)
	for s, want := range map[string]api.Errno{
		has(tooDeep) + has(tooMany):                             api.ErrDeep,
		has(tooMany) + has(tooDeep):                             api.ErrMany,
		has(tooMany + " ftor " + tooDeep):                       api.ErrMany,
		has(tooDeep + " ftor " + tooMany):                       api.ErrDeep,
		has("'x' foo") + has(tooDeep):                           api.ErrQuery,
		has("'x' foo " + tooDeep):                               api.ErrQuery,
		has("'x' foo ftor " + tooMany):                          api.ErrQuery,
		has("'x' ftor " + tooDeep + " foo"):                     api.ErrDeep,
		has("'x' ftor " + tooMany + " foo"):                     api.ErrMany,
		has(tooDeep) + "/]":                                     api.ErrDeep,
		has(tooMany) + "/]":                                     api.ErrMany,
		"/]" + has(tooDeep):                                     api.ErrQuery,
		"/a[contains text" + has(tooMany):                       api.ErrQuery,
		manySteps + "]":                                         api.ErrMany,
		manySteps + has(tooDeep):                                api.ErrMany,
		has(tooDeep) + manySteps:                                api.ErrDeep,
		has("foo") + manySteps:                                  api.ErrQuery,
		manySteps[2:] + has(tooDeep):                            api.ErrMany,
		manySteps[4:] + has(tooDeep):                            api.ErrDeep,
		manySteps[4:] + has("x"):                                api.ErrQuery,
		manySteps[4:] + has("x") + "/a":                         api.ErrQuery,
		has(strings.Repeat("(", api.MaxDepth)):                  api.ErrDeep,
		has(strings.Repeat("(", api.MaxDepth-1)):                api.ErrQuery,
		has(strings.Repeat("(", 3000)):                          api.ErrDeep,
		has("(" + strings.Repeat("ftnot (", 99)):                api.ErrDeep,
		has(within(99, "'x' foo")):                              api.ErrQuery,
		has("'x'" + strings.Repeat(" ordered", 100) + " foo"):   api.ErrMany,
		has("'x' foo" + strings.Repeat(" ordered", 100)):        api.ErrQuery,
		"/a[contains text 'x'" + strings.Repeat(" at end", 100): api.ErrMany,
		"/a[contains text 'x'" + strings.Repeat(" at end", 99):  api.ErrQuery,
	} {
		fails(t, s, want)
	}
}

// TestParseP131PartsStand tells where a part stands that is one too many: its Kids are read, and so is its text or word.
func TestParseP131PartsStand(t *testing.T) {
	full := within(1, "'x'"+strings.Repeat(" at end", api.MaxParts-1))
	less := within(1, "'x'"+strings.Repeat(" at end", api.MaxParts-2))
	for s, want := range map[string]api.Errno{
		full + " ftor 'x' using foo":     api.ErrMany,
		full + " ftor foo":               api.ErrQuery,
		full + " window foo":             api.ErrMany,
		full + " same foo":               api.ErrMany,
		full + " at foo":                 api.ErrQuery,
		less + " ftor 'x' foo":           api.ErrMany,
		less + " ftor 'x' any foo":       api.ErrMany,
		less + " ftor 'x' all foo":       api.ErrMany,
		less + " ftor 'x' using foo":     api.ErrQuery,
		less + " ftand 'x' occurs foo":   api.ErrMany,
		less + " ftand 'x' ftor foo":     api.ErrMany,
		less + " ftor ftnot 'x' foo":     api.ErrMany,
		less + " ftor ftnot foo":         api.ErrQuery,
		less + " ftor 'x' weight {1.}":   api.ErrQuery,
		less + " distance foo":           api.ErrQuery,
		less + " distance exactly 1 foo": api.ErrQuery,
	} {
		fails(t, has(s), want)
	}
}

// TestParseP131Kinds holds the kinds and modes to their numbers.
func TestParseP131Kinds(t *testing.T) {
	for i, kind := range []lang.Kind{
		lang.Words, lang.Or, lang.And, lang.Mild, lang.Not, lang.Times, lang.Ordered, lang.Window, lang.Distance, lang.Same, lang.Apart, lang.First, lang.Last, lang.Entire,
	} {
		if int(kind) != i+1 {
			t.Errorf("kind %d is %d", i+1, kind)
		}
	}
	if lang.Phrase != 0 || lang.Any != 1 || lang.All != 2 {
		t.Error("modes", lang.Phrase, lang.Any, lang.All)
	}
}
