package plan_test

import (
	"math"
	"strings"
	"testing"

	"catchword/alike"
	"catchword/api"
	"catchword/lang"
	"catchword/plan"
)

// kinds is how many Kids each kind of part has.
func kinds() map[lang.Kind]int {
	return map[lang.Kind]int{
		lang.Words: 0, lang.Or: 2, lang.And: 2, lang.Mild: 2, lang.Not: 1, lang.Times: 1, lang.Ordered: 1, lang.Window: 1, lang.Distance: 1,
		lang.Same: 1, lang.Apart: 1, lang.First: 1, lang.Last: 1, lang.Entire: 1,
	}
}

// full is a right part of a kind, whose Kids are texts.
func full(kind lang.Kind) lang.Sel {
	s := lang.Sel{Kind: kind, Weight: 1}
	for _, k := range []string{"x", "y"}[:kinds()[kind]] {
		s.Kids = append(s.Kids, text(k))
	}
	return s
}

// others is as many parts, each with the last one in it, around a part.
func others(kind lang.Kind, n int, s lang.Sel) lang.Sel {
	for range n {
		outer := full(kind)
		outer.Kids[len(outer.Kids)-1] = s
		s = outer
	}
	return s
}

// pattern is Words of patterns.
func pattern(s string) lang.Sel {
	return lang.Sel{Kind: lang.Words, Text: s, Weight: 1, Opts: alike.Options{Wild: true}}
}

// weighs is a text with a weight.
func weighs(w float64) lang.Sel { return lang.Sel{Kind: lang.Words, Text: "x", Weight: w} }

// window is a Window of a text, with an N.
func window(n int) lang.Sel { return lang.Sel{Kind: lang.Window, Kids: []lang.Sel{text("x")}, N: n} }

// span is a part of a text with a range.
func span(kind lang.Kind, lo, hi int) lang.Sel {
	return lang.Sel{Kind: kind, Kids: []lang.Sel{text("x")}, Range: api.Range{Lo: lo, Hi: hi}}
}

func TestMakeP142Steps(t *testing.T) {
	fails(t, nil, api.ErrArg)
	fails(t, []lang.Step{}, api.ErrArg)
	for _, n := range []int{1, 2, api.MaxParts - 1, api.MaxParts, api.MaxParts + 1, 3 * api.MaxParts} {
		steps := make([]lang.Step, n)
		for i := range steps {
			steps[i].Name = "a"
		}
		if n <= api.MaxParts {
			makes(t, steps)
			continue
		}
		fails(t, steps, api.ErrArg)
		steps[0].Has = []lang.Sel{weighs(-1)}
		fails(t, steps, api.ErrArg)
	}
}

func TestMakeP142Step(t *testing.T) {
	x := text("x")
	makes(t, []lang.Step{{Name: "a"}})
	makes(t, []lang.Step{{Name: "a", Has: []lang.Sel{x}}})
	makes(t, []lang.Step{{Name: "*", Deep: true, Has: []lang.Sel{x}}})
	makes(t, []lang.Step{{Name: " "}, {Name: "\xff"}, {Name: "\x00"}})
	fails(t, []lang.Step{{}}, api.ErrArg)
	fails(t, []lang.Step{{Deep: true, Has: []lang.Sel{x}}}, api.ErrArg)
	fails(t, []lang.Step{{Name: "a", Has: []lang.Sel{x, x}}}, api.ErrArg)
	fails(t, []lang.Step{{Name: "a", Has: []lang.Sel{x, x, x}}}, api.ErrArg)
	fails(t, []lang.Step{{Name: "a"}, {Name: "b", Has: []lang.Sel{x}}, {}}, api.ErrArg)
	fails(t, []lang.Step{{Name: "a"}, {Name: "b", Has: []lang.Sel{x, x}}, {Name: "c"}}, api.ErrArg)
}

func TestMakeP142Kinds(t *testing.T) {
	for kind, n := range kinds() {
		makes(t, has(full(kind)))
		for kids := range 5 {
			s := full(kind)
			s.Kids = []lang.Sel{text("x"), text("y"), text("z"), text("v")}[:kids]
			if kids != n {
				fails(t, has(s), api.ErrArg)
				fails(t, has(of(lang.First, s)), api.ErrArg)
			} else {
				makes(t, has(s))
			}
		}
	}
	for _, kind := range []lang.Kind{0, -1, lang.Words - 1, lang.Entire + 1, 100, math.MaxInt, math.MinInt, 1<<32 + 1} {
		for kids := range 3 {
			s := lang.Sel{Kind: kind, Weight: 1, Kids: []lang.Sel{text("x"), text("y")}[:kids]}
			fails(t, has(s), api.ErrArg)
			fails(t, has(of(lang.Or, text("x"), s)), api.ErrArg)
		}
	}
	fails(t, has(lang.Sel{}), api.ErrArg)
}

func TestMakeP142Deep(t *testing.T) {
	for kind, n := range kinds() {
		if n == 0 || kind == lang.Not || kind == lang.Times {
			continue
		}
		makes(t, has(others(kind, 199, text("x"))))
		makes(t, has(others(kind, 200, text("x"))))
		fails(t, has(others(kind, 201, text("x"))), api.ErrDeep)
		fails(t, has(others(kind, 5000, text("x"))), api.ErrDeep)
	}
	for _, kind := range []lang.Kind{lang.Not, lang.Times, lang.Or} {
		makes(t, has(others(kind, 200, text("x"))))
		fails(t, has(others(kind, 201, text("x"))), api.ErrDeep)
		fails(t, has(others(kind, 1<<16, text("x"))), api.ErrDeep)
		// Whatever is in it: it is the first thing that is asked of a part.
		fails(t, has(others(kind, 201, weighs(-1))), api.ErrDeep)
		fails(t, has(others(kind, 201, lang.Sel{})), api.ErrDeep)
		fails(t, has(others(kind, 200, weighs(-1))), api.ErrRange)
		fails(t, has(others(kind, 200, lang.Sel{})), api.ErrArg)
		fails(t, has(others(kind, 200, of(lang.Or, text("x")))), api.ErrArg)
	}
	// Each step begins anew, and so does each Kid.
	step := has(others(lang.Same, 200, text("x")))[0]
	makes(t, []lang.Step{step, step, step})
	makes(t, has(of(lang.And, others(lang.Same, 199, text("x")), others(lang.Or, 199, text("y")))))
	fails(t, has(of(lang.And, others(lang.Same, 199, text("x")), others(lang.Or, 200, text("y")))), api.ErrDeep)
	fails(t, has(of(lang.And, others(lang.Same, 200, text("x")), others(lang.Or, 199, text("y")))), api.ErrDeep)
}

func TestMakeP142Words(t *testing.T) {
	for _, mode := range []lang.Mode{-1, lang.All + 1, 100, math.MaxInt, math.MinInt} {
		s := text("x")
		s.Mode = mode
		fails(t, has(s), api.ErrArg)
		s.Weight = -1 // asked behind the mode
		fails(t, has(s), api.ErrArg)
		s = pattern("{")
		s.Mode = mode
		fails(t, has(s), api.ErrArg)
		// Of others it isn't asked.
		s = full(lang.And)
		s.Mode = mode
		makes(t, has(s))
	}
	for _, w := range []float64{math.NaN(), math.Inf(1), math.Inf(-1), -0.001, 1000.001, -math.SmallestNonzeroFloat64, math.Nextafter(1000, 2000)} {
		fails(t, has(weighs(w)), api.ErrRange)
		fails(t, has(of(lang.Mild, text("x"), weighs(w))), api.ErrRange)
		s := pattern("{")
		s.Weight = w // asked ahead of the words
		fails(t, has(s), api.ErrRange)
		s.Text = ""
		fails(t, has(s), api.ErrRange)
		// Of others it isn't asked.
		for kind, n := range kinds() {
			if s := full(kind); n > 0 {
				s.Weight = w
				makes(t, has(s))
			}
		}
	}
	for _, w := range []float64{0, math.Copysign(0, -1), 1000, 0.5} {
		makes(t, has(weighs(w)))
	}
}

// Words that layer 8 refuses.
var (
	tooMany = strings.Repeat("x", 201)
	noText  = "\xff"
	open    = "x.{"
)

func TestMakeP142Each(t *testing.T) {
	for s, want := range map[string]api.Errno{
		open:                                      api.ErrQuery,
		noText:                                    api.ErrUTF,
		tooMany:                                   api.ErrMany,
		open + " " + noText + " " + tooMany:       api.ErrQuery,
		noText + "\n" + tooMany + "\n" + open:     api.ErrUTF,
		tooMany + "\t" + open + "\t" + noText:     api.ErrMany,
		"x the " + open + " y " + noText:          api.ErrQuery,
		"  x\r\ny " + noText + " y " + open:       api.ErrUTF,
		"x " + tooMany + " y " + open + " x ":     api.ErrMany,
		"dog cat " + tooMany[1:] + " \\":          api.ErrQuery,
		"dog\xff cat":                             api.ErrUTF,
		"r.{2,1}":                                 api.ErrQuery,
		strings.Repeat("x ", 500) + open:          api.ErrQuery,
		strings.Repeat(tooMany[1:]+" ", 3) + "\\": api.ErrQuery,
	} {
		for _, mode := range []lang.Mode{lang.Phrase, lang.Any, lang.All} {
			for _, stop := range []bool{false, true} {
				sel := pattern(s)
				sel.Mode, sel.Opts.Stop = mode, stop
				fails(t, has(sel), want)
				fails(t, has(of(lang.Or, text("y"), sel)), want)
				// As a document's words it has none that are wrong.
				sel.Opts.Wild = false
				makes(t, has(sel))
			}
		}
	}
	makes(t, has(pattern(tooMany[1:]+" \\\\ .{3,4}")))
	makes(t, has(pattern("")))
	makes(t, has(text(noText+open+tooMany)))
}

func TestMakeP142Mild(t *testing.T) {
	x := text("x")
	for _, bad := range []lang.Sel{full(lang.Not), full(lang.Times), of(lang.Not), lang.Sel{Kind: lang.Times, Range: api.Range{Lo: 3, Hi: 2}, Kids: []lang.Sel{x}}} {
		for _, within := range []lang.Sel{
			bad, of(lang.Ordered, bad), of(lang.Or, x, bad), of(lang.And, bad, x), of(lang.Mild, x, bad), of(lang.Mild, bad, x),
			of(lang.Window, of(lang.Same, of(lang.And, x, of(lang.Or, bad, x)))), others(lang.Mild, 3, bad), others(lang.Entire, 199, bad),
			// However deep: also in those that are too deep themselves, or wrong.
			others(lang.Entire, 200, bad), others(lang.Or, 300, bad), others(lang.First, 1<<14, bad), of(0, bad), of(lang.Words, x, x, bad), {Kind: -5, Kids: []lang.Sel{of(lang.Or, bad)}},
		} {
			fails(t, has(of(lang.Mild, x, within)), api.ErrType)
			fails(t, has(of(lang.Mild, within, x)), api.ErrType)
			fails(t, has(of(lang.Mild, within, within)), api.ErrType)
			fails(t, has(of(lang.Ordered, of(lang.Mild, within, x))), api.ErrType)
		}
	}
	for kind := range kinds() {
		if kind != lang.Not && kind != lang.Times {
			makes(t, has(of(lang.Mild, full(kind), x)))
			makes(t, has(of(lang.Mild, x, full(kind))))
		}
	}
	// It is what is in the Mild that counts, not what it is in, or beside.
	makes(t, has(of(lang.Not, of(lang.Mild, x, x))))
	makes(t, has(of(lang.Times, of(lang.Or, of(lang.Mild, x, x), full(lang.Not)))))
	makes(t, has(of(lang.And, full(lang.Times), of(lang.Mild, x, x))))
	makes(t, []lang.Step{has(full(lang.Not))[0], has(full(lang.Mild))[0], has(full(lang.Times))[0]})
	// It is told behind how many Kids there are, and ahead of a Unit that is none and of the Kids.
	fails(t, has(of(lang.Mild, full(lang.Not))), api.ErrArg)
	fails(t, has(of(lang.Mild, x, x, full(lang.Not))), api.ErrArg)
	fails(t, has(lang.Sel{Kind: lang.Mild, Kids: []lang.Sel{x, full(lang.Not)}, Unit: 3}), api.ErrType)
	fails(t, has(of(lang.Mild, weighs(-1), full(lang.Not))), api.ErrType)
	fails(t, has(of(lang.Mild, weighs(-1), x)), api.ErrRange)
	fails(t, has(of(lang.Mild, lang.Sel{}, full(lang.Not))), api.ErrType)
	fails(t, has(of(lang.Mild, of(lang.Mild, full(lang.Not)), x)), api.ErrType)
	// A Mild that isn't reached tells nothing.
	fails(t, has(of(lang.And, weighs(-1), of(lang.Mild, x, full(lang.Not)))), api.ErrRange)
	fails(t, has(of(lang.And, of(lang.Mild, x, full(lang.Not)), weighs(-1))), api.ErrType)
	fails(t, has(others(lang.Or, 201, of(lang.Mild, x, full(lang.Not)))), api.ErrDeep)
}

func TestMakeP142Numbers(t *testing.T) {
	outside := []int{-1, -2, api.MaxNumber + 1, api.MaxNumber + 2, math.MaxInt, math.MinInt, 1 << 32, -1 << 32}
	inside := []int{0, 1, 2, 1000, api.MaxNumber - 1, api.MaxNumber}
	for _, n := range outside {
		fails(t, has(window(n)), api.ErrRange)
		fails(t, has(of(lang.Not, window(n))), api.ErrRange)
	}
	for _, n := range inside {
		makes(t, has(window(n)))
	}
	for _, kind := range []lang.Kind{lang.Times, lang.Distance} {
		for _, n := range outside {
			for _, other := range append(inside, outside...) {
				fails(t, has(span(kind, n, other)), api.ErrRange)
				fails(t, has(span(kind, other, n)), api.ErrRange)
			}
		}
		for i, n := range inside {
			for j, other := range inside {
				if i <= j {
					makes(t, has(span(kind, n, other)))
				} else {
					fails(t, has(span(kind, n, other)), api.ErrRange)
				}
			}
		}
	}
	// What a kind doesn't ask for isn't asked.
	for kind := range kinds() {
		for _, n := range outside {
			s := full(kind)
			if kind != lang.Window {
				s.N = n
			}
			if kind != lang.Times && kind != lang.Distance {
				s.Range = api.Range{Lo: n, Hi: -n}
			}
			makes(t, has(s))
		}
	}
}

func TestMakeP142Units(t *testing.T) {
	for kind := range kinds() {
		for _, unit := range []api.Unit{-1, api.Paragraphs + 1, 100, math.MaxInt, math.MinInt} {
			s := full(kind)
			s.Unit = unit
			if kind == lang.Words {
				makes(t, has(s))
			} else {
				fails(t, has(s), api.ErrArg)
				fails(t, has(of(lang.Or, text("x"), s)), api.ErrArg)
			}
		}
		for _, unit := range []api.Unit{api.Words, api.Sentences, api.Paragraphs} {
			s := full(kind)
			s.Unit = unit
			makes(t, has(s))
		}
	}
}

// TestMakeP142First has two faults or more, of which one is the first.
func TestMakeP142First(t *testing.T) {
	x, arg, ranged, typed := text("x"), lang.Sel{}, weighs(-1), of(lang.Mild, text("x"), full(lang.Not))
	utf, query, many := pattern(noText), pattern(open), pattern(tooMany)
	noUnit := func(s lang.Sel) lang.Sel { s.Unit = 3; return s }
	with := func(s lang.Sel, kids ...lang.Sel) lang.Sel { s.Kids = kids; return s }
	// A part by itself.
	fails(t, has(noUnit(window(-1))), api.ErrRange)
	fails(t, has(noUnit(span(lang.Times, 2, 1))), api.ErrRange)
	fails(t, has(noUnit(span(lang.Distance, -1, 1))), api.ErrRange)
	fails(t, has(with(window(-1), x, x)), api.ErrArg)
	fails(t, has(with(span(lang.Times, 2, 1))), api.ErrArg)
	fails(t, has(with(ranged, x)), api.ErrArg)
	fails(t, has(with(utf, x)), api.ErrArg)
	// A part and its Kids.
	fails(t, has(with(window(-1), utf)), api.ErrRange)
	fails(t, has(with(window(1), utf)), api.ErrUTF)
	fails(t, has(noUnit(of(lang.Or, ranged, utf))), api.ErrArg)
	fails(t, has(of(lang.Or, ranged)), api.ErrArg)
	fails(t, has(with(span(lang.Times, 2, 1), query)), api.ErrRange)
	fails(t, has(with(span(lang.Distance, 1, 2), noUnit(of(lang.Same, utf)))), api.ErrArg)
	fails(t, has(of(lang.First, of(lang.Last, with(window(-1), utf)))), api.ErrRange)
	fails(t, has(of(lang.Mild, of(lang.Or, utf, full(lang.Not)), x)), api.ErrType)
	// Two Kids, and what is in them: the first one's Kids are ahead of the second.
	faults := []struct {
		s    lang.Sel
		want api.Errno
	}{{arg, api.ErrArg}, {ranged, api.ErrRange}, {typed, api.ErrType}, {utf, api.ErrUTF}, {query, api.ErrQuery}, {many, api.ErrMany}, {others(lang.Or, 201, x), api.ErrDeep}}
	for _, a := range faults {
		for _, b := range faults {
			fails(t, has(of(lang.Or, a.s, b.s)), a.want)
			fails(t, has(of(lang.And, x, of(lang.Or, a.s, b.s))), a.want)
			fails(t, has(of(lang.And, of(lang.Entire, of(lang.Last, a.s)), b.s)), a.want)
			fails(t, has(of(lang.And, of(lang.Or, x, a.s), of(lang.Or, b.s, x))), a.want)
			fails(t, []lang.Step{has(a.s)[0], has(b.s)[0]}, a.want)
			fails(t, []lang.Step{{Name: "a"}, has(of(lang.Or, x, a.s))[0], {Name: "b"}, has(b.s)[0]}, a.want)
		}
		// A step is ahead of its part, and of the steps behind it.
		fails(t, []lang.Step{{Has: []lang.Sel{a.s}}}, api.ErrArg)
		fails(t, []lang.Step{{Name: "a", Has: []lang.Sel{a.s, a.s}}}, api.ErrArg)
		fails(t, []lang.Step{has(x)[0], {}, has(a.s)[0]}, api.ErrArg)
		fails(t, []lang.Step{has(x)[0], has(a.s)[0], {}}, a.want)
		fails(t, []lang.Step{has(a.s)[0], {Name: "a", Has: []lang.Sel{x, x}}}, a.want)
		// Too many steps are ahead of all.
		fails(t, append([]lang.Step{has(a.s)[0]}, make([]lang.Step, api.MaxParts)...), api.ErrArg)
		fails(t, append([]lang.Step{has(a.s)[0]}, make([]lang.Step, api.MaxParts-1)...), a.want)
	}
}

func TestTextP143Errors(t *testing.T) {
	question := func(s string) string { return "//a[contains text " + s + "]" }
	for s, want := range map[string]api.Errno{
		// What Parse refuses.
		"": api.ErrQuery, "a": api.ErrQuery, "/": api.ErrQuery, "\xff": api.ErrUTF, question("x"): api.ErrQuery, question("'x' weight {-1}"): api.ErrQuery,
		strings.Repeat("/a", api.MaxText/2) + "/":                                  api.ErrMany,
		strings.Repeat("/a", api.MaxParts+1):                                       api.ErrMany,
		question(strings.Repeat("(", 100) + "'x'" + strings.Repeat(")", 100)):      api.ErrDeep,
		question("'x'" + strings.Repeat(" ordered", 100)):                          api.ErrMany,
		question("'x' weight {1001}") + "/":                                        api.ErrQuery,
		question("'x' not in ftnot 'y'") + strings.Repeat("/a", api.MaxParts):      api.ErrMany,
		question("'x' weight {1001}") + question("'y' not in (ftnot 'z'") + "\xff": api.ErrUTF,
		// What Make refuses.
		question("'x' weight {1001}"): api.ErrRange, question("'x' weight {1000.000000001}"): api.ErrRange, question("'x' weight {99999999999999999999}"): api.ErrRange,
		question("'x' window 1048577 words"): api.ErrRange, question("'x' window 99999999999999999999 words"): api.ErrRange,
		question("'x' distance from 2 to 1 words"): api.ErrRange, question("'x' occurs from 1 to 0 times"): api.ErrRange, question("'x' occurs at least 1048577 times"): api.ErrRange,
		question("'x' occurs at most 1048577 times"): api.ErrRange, question("'x' distance exactly 1048577 sentences"): api.ErrRange,
		question("'x' not in ftnot 'y'"): api.ErrType, question("('x' ordered occurs at least 1 times) not in 'y'"): api.ErrQuery, question("'x' occurs at least 1 times not in 'y'"): api.ErrType,
		question("'x' not in ('y' ftand ('z' occurs exactly 2 times))"): api.ErrType,
		question("'x \\' using wildcards"):                              api.ErrQuery, question("'" + tooMany + "' using wildcards"): api.ErrMany,
		question("'x' weight {1001}") + question("'y' not in ftnot 'z'"):                 api.ErrRange,
		"/a" + question("'y' not in (ftnot 'z')") + "/b" + question("'x' weight {1001}"): api.ErrType,
		// What can be asked.
		"/a": api.OK, "//*": api.OK, question("''"): api.OK, question("'x' weight {1000}"): api.OK, question("'x' window 1048576 words"): api.OK,
		question("ftnot 'x' not in 'y'"): api.ErrType, question("ftnot ('x' not in 'y')"): api.OK, question("'x' occurs from 2 to 2 times"): api.OK,
		question("'" + tooMany + " \\'"): api.OK, strings.Repeat("/a", api.MaxParts): api.OK, question("'x'" + strings.Repeat(" ordered", 99)): api.OK,
	} {
		made, e := plan.Text(s)
		if e != want || (len(made) > 0) != (want == api.OK) {
			t.Errorf("%.200s: got %v and error %v, want error %v", s, made, e, want)
		}
	}
}
