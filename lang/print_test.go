package lang_test

import (
	"math"
	"strings"
	"testing"

	"catchword/alike"
	"catchword/api"
	"catchword/lang"
)

// prints checks the text of a part.
func prints(t *testing.T, s lang.Sel, want string) {
	t.Helper()
	if got := s.Print(); got != want {
		t.Errorf("%v: got %s, want %s", s, short(got), short(want))
	}
}

func TestPrintP132Words(t *testing.T) {
	prints(t, text("dog"), `"dog"`)
	prints(t, text(""), `""`)
	prints(t, text(`"`), `""""`)
	prints(t, text(`a"b""c`), `"a""b""""c"`)
	prints(t, text("it's"), `"it's"`)
	prints(t, text("a\\n\n\x00é\xff"), "\"a\\n\n\x00é\xff\"")
	for mode, want := range map[lang.Mode]string{lang.Phrase: "", lang.Any: " any word", lang.All: " all words", 3: "", -1: "", math.MaxInt: "", math.MinInt: ""} {
		prints(t, lang.Sel{Kind: lang.Words, Text: "x", Mode: mode, Weight: 1}, `"x"`+want)
	}
	for _, o := range options() {
		want := ""
		for _, one := range []struct {
			on   bool
			name string
		}{{o.Case, "case sensitive"}, {o.Marks, "diacritics sensitive"}, {o.Stem, "stemming"}, {o.Stop, "stop words"}, {o.Wild, "wildcards"}} {
			if one.on {
				want += " using " + one.name
			}
		}
		prints(t, lang.Sel{Kind: lang.Words, Text: "x", Opts: o, Weight: 1}, `"x"`+want)
		prints(t, lang.Sel{Kind: lang.Words, Text: "x", Mode: lang.All, Opts: o, Weight: 2}, `"x" all words`+want+" weight {2.000}")
	}
	// What isn't of Words isn't told.
	full := lang.Sel{Kind: lang.Words, Text: "x", Weight: 1, N: 5, Range: api.Range{Lo: 1, Hi: 2}, Unit: api.Sentences, Kids: []lang.Sel{text("y")}}
	prints(t, full, `"x"`)
}

func TestPrintP132Weights(t *testing.T) {
	for w, want := range map[float64]string{
		0: "0.000", math.Copysign(0, -1): "0.000", 2: "2.000", 2.5: "2.500", 0.5: "0.500", 0.001: "0.001", 0.01: "0.010", 0.1: "0.100", 0.999: "0.999", 1.001: "1.001",
		12.034: "12.034", 999.999: "999.999", 1000: "1000.000", 1000000: "1000000.000", 999999.999: "999999.999", 999999.9996: "1000000.000",
		0.0004: "0.000", 0.00049: "0.000", 0.0006: "0.001", 0.0015: "0.002", 0.0625: "0.063", 0.1875: "0.188", 0.9994: "0.999", 0.9996: "1.000", 1.0000001: "1.000", 2.71828: "2.718", 3.14159: "3.142",
		-1: "0.000", -0.001: "0.000", -0.0001: "0.000", -1e300: "0.000", 1000000.001: "0.000", 1000001: "0.000", 1e9: "0.000", 1e300: "0.000",
		math.Nextafter(1000000, 2000000): "0.000", math.Nextafter(1000000, 0): "1000000.000", math.SmallestNonzeroFloat64: "0.000", -math.SmallestNonzeroFloat64: "0.000",
		math.Inf(1): "0.000", math.Inf(-1): "0.000", math.MaxFloat64: "0.000",
	} {
		prints(t, lang.Sel{Kind: lang.Words, Text: "x", Weight: w}, `"x" weight {`+want+"}")
	}
	prints(t, lang.Sel{Kind: lang.Words, Text: "x", Weight: math.NaN()}, `"x" weight {0.000}`)
	prints(t, lang.Sel{Kind: lang.Words, Text: "x"}, `"x" weight {0.000}`)
	prints(t, lang.Sel{Kind: lang.Words, Text: "x", Weight: 1}, `"x"`)
}

func TestPrintP132Ranges(t *testing.T) {
	for want, r := range map[string]api.Range{
		"from 0 to 0":             {},
		"from 3 to 3":             {Lo: 3, Hi: 3},
		"from 2 to 5":             {Lo: 2, Hi: 5},
		"from 5 to 2":             {Lo: 5, Hi: 2},
		"from 0 to 9":             {Hi: 9},
		"at least 2":              {Lo: 2, Hi: api.MaxNumber},
		"at least 0":              {Hi: api.MaxNumber},
		"at least 1048576":        {Lo: api.MaxNumber, Hi: api.MaxNumber},
		"at least 1048577":        {Lo: api.MaxNumber + 1, Hi: api.MaxNumber},
		"at least -4":             {Lo: -4, Hi: api.MaxNumber},
		"from 2 to 1048575":       {Lo: 2, Hi: api.MaxNumber - 1},
		"from 2 to 1048577":       {Lo: 2, Hi: api.MaxNumber + 1},
		"from -3 to -1":           {Lo: -3, Hi: -1},
		"from 1048576 to 1048575": {Lo: api.MaxNumber, Hi: api.MaxNumber - 1},
		"from -9223372036854775808 to 9223372036854775807": {Lo: math.MinInt, Hi: math.MaxInt},
	} {
		prints(t, lang.Sel{Kind: lang.Times, Kids: []lang.Sel{text("x")}, Range: r}, `"x" occurs `+want+" times")
		prints(t, lang.Sel{Kind: lang.Distance, Kids: []lang.Sel{text("x")}, Range: r}, `("x" distance `+want+" words)")
	}
}

// kinds is the text of each kind with the Kids A and B, of a part whose Range, N and Unit are 2 to 4, 7, and Sentences.
func kinds() map[lang.Kind]string {
	return map[lang.Kind]string{
		lang.Or: "(A ftor B)", lang.And: "(A ftand B)", lang.Mild: "(A not in B)", lang.Not: "(ftnot A)", lang.Times: "A occurs from 2 to 4 times", lang.Ordered: "(A ordered)",
		lang.Window: "(A window 7 sentences)", lang.Distance: "(A distance from 2 to 4 sentences)", lang.Same: "(A same sentence)", lang.Apart: "(A different sentence)",
		lang.First: "(A at start)", lang.Last: "(A at end)", lang.Entire: "(A entire content)",
		0: "()", -1: "()", lang.Entire + 1: "()", math.MaxInt: "()", math.MinInt: "()",
	}
}

func TestPrintP132Kinds(t *testing.T) {
	a, b, c := text("a"), text("b"), text("c")
	for kind, want := range kinds() {
		full := lang.Sel{Kind: kind, Text: "no", Mode: lang.Any, Opts: alike.Options{Case: true}, Weight: 2, N: 7, Range: api.Range{Lo: 2, Hi: 4}, Unit: api.Sentences}
		for _, kids := range [][]lang.Sel{nil, {a}, {a, b}, {a, b, c}, {of(lang.Or, a, b), of(lang.Not, c)}, {lang.Sel{}, lang.Sel{Kind: lang.Times}}} {
			full.Kids = kids
			texts := []string{"", ""}
			for i := range min(2, len(kids)) {
				texts[i] = kids[i].Print()
			}
			prints(t, full, strings.NewReplacer("A", texts[0], "B", texts[1]).Replace(want))
		}
	}
	prints(t, of(lang.Or, a, b), `("a" ftor "b")`)
	prints(t, of(lang.Or, a), `("a" ftor )`)
	prints(t, of(lang.Or), "( ftor )")
	prints(t, of(lang.Not), "(ftnot )")
	prints(t, of(lang.Times), " occurs from 0 to 0 times")
	prints(t, of(lang.And, of(lang.Or, a, b), of(lang.Ordered, of(lang.Not, c))), `(("a" ftor "b") ftand ((ftnot "c") ordered))`)
	prints(t, of(lang.Not, of(lang.Times, of(lang.Or, a, b))), `(ftnot ("a" ftor "b") occurs from 0 to 0 times)`)
}

func TestPrintP132Units(t *testing.T) {
	for unit, want := range map[api.Unit]string{
		api.Words: "word", api.Sentences: "sentence", api.Paragraphs: "paragraph", -1: "word", 3: "paragraph", math.MinInt: "word", math.MaxInt: "paragraph",
	} {
		kids := []lang.Sel{text("x")}
		prints(t, lang.Sel{Kind: lang.Window, Kids: kids, N: 5, Unit: unit}, `("x" window 5 `+want+"s)")
		prints(t, lang.Sel{Kind: lang.Distance, Kids: kids, Unit: unit}, `("x" distance from 0 to 0 `+want+"s)")
		prints(t, lang.Sel{Kind: lang.Same, Kids: kids, Unit: unit}, `("x" same `+want+")")
		prints(t, lang.Sel{Kind: lang.Apart, Kids: kids, Unit: unit}, `("x" different `+want+")")
	}
	for n, want := range map[int]string{0: "0", 1: "1", -5: "-5", api.MaxNumber + 1: "1048577", math.MaxInt: "9223372036854775807", math.MinInt: "-9223372036854775808"} {
		prints(t, lang.Sel{Kind: lang.Window, N: n, Kids: []lang.Sel{text("x")}}, `("x" window `+want+" words)")
	}
}

func TestPrintP132Deep(t *testing.T) {
	const depth = 1 << 16
	s := text("x")
	for range depth {
		s = of(lang.Not, s)
	}
	prints(t, s, strings.Repeat("(ftnot ", depth)+`"x"`+strings.Repeat(")", depth))
	if got, want := len(lang.Text([]lang.Step{{Name: "a", Has: []lang.Sel{s}}})), len(`/a[. contains text "x"]`)+depth*len("(ftnot )"); got != want {
		t.Errorf("got %d bytes, want %d", got, want)
	}
}

func TestTextP132(t *testing.T) {
	x, y := text("x"), of(lang.Or, text("x"), text("y"))
	for want, steps := range map[string][]lang.Step{
		"":                                   nil,
		"/a":                                 {{Name: "a"}},
		"//a":                                {{Deep: true, Name: "a"}},
		"/*//*":                              {{Name: "*"}, {Deep: true, Name: "*"}},
		"/":                                  {{}},
		"//":                                 {{Deep: true}},
		"//a b\"/.":                          {{Deep: true, Name: "a b\""}, {Name: "."}},
		`/a[. contains text "x"]`:            {{Name: "a", Has: []lang.Sel{x}}},
		`//a/b[. contains text "x"]//c/d`:    {{Deep: true, Name: "a"}, {Name: "b", Has: []lang.Sel{x}}, {Deep: true, Name: "c"}, {Name: "d"}},
		`/a[. contains text ("x" ftor "y")]`: {{Name: "a", Has: []lang.Sel{y}}},
		`/[. contains text ()]/b`:            {{Has: []lang.Sel{{}}}, {Name: "b", Has: []lang.Sel{}}},
		`/a[. contains text "x"]/b[. contains text "x"]`:                                 {{Name: "a", Has: []lang.Sel{x}}, {Name: "b", Has: []lang.Sel{x}}},
		`/a[. contains text "x"][. contains text ("x" ftor "y")][. contains text "x"]/b`: {{Name: "a", Has: []lang.Sel{x, y, x}}, {Name: "b"}},
	} {
		if got := lang.Text(steps); got != want {
			t.Errorf("got %s, want %s", got, want)
		}
	}
}

func TestPrintP132NothingChanged(t *testing.T) {
	kids := append(make([]lang.Sel, 0, 5), of(lang.Not, text(`a"b`)), text("c"))
	s := lang.Sel{Kind: lang.Or, Kids: kids}
	steps := append(make([]lang.Step, 0, 3), lang.Step{Name: "a", Has: append(make([]lang.Sel, 0, 2), s)})
	for range 2 {
		prints(t, s, `((ftnot "a""b") ftor "c")`)
		if got, want := lang.Text(steps), `/a[. contains text ((ftnot "a""b") ftor "c")]`; got != want {
			t.Errorf("got %s, want %s", got, want)
		}
	}
	if !same(s, of(lang.Or, of(lang.Not, text(`a"b`)), text("c"))) || !same(kids[:3][2], lang.Sel{}) || !same(steps[0].Has[:2][1], lang.Sel{}) {
		t.Errorf("got %v", s)
	}
}

// TestTextP133 parses what Text says of what was parsed.
func TestTextP133(t *testing.T) {
	var all []string
	for _, s := range []string{
		"'x'", `'a"b'`, `"it's"`, `"a""b"`, "''", "'x' any word", "'x y' all words using stemming using no stemming using wildcards", "'x' using case sensitive using diacritics sensitive using stop words",
		"'x' weight {0}", "'x' weight {1}", "'x' weight {1.000}", "'x' weight {0.001}", "'x' weight {2.5}", "'x' weight {0.123}", "'x' weight {999999.999}", "'x' weight {1000000}",
		"'x' occurs exactly 3 times", "'x' occurs at least 2 times", "'x' occurs at most 2 times", "'x' occurs from 5 to 2 times", "'x' occurs from 2 to 1048576 times", "'x' occurs from 2 to 99999999 times",
		"'x' occurs at least 99999999 times", "'a' any word weight {2} occurs exactly 3 times", "ftnot 'a' occurs exactly 3 times ftor 'b'", "'a' not in ('b' not in 'c')", "'a' ftor ('b' ftor ('c' ftor 'd'))",
		"'x' window 99999999 words", "ftnot (ftnot (ftnot 'x'))", "'x' ftor 'y' ftand 'z' not in 'u' ordered at start",
	} {
		all = append(all, has(s), "//a"+has(s)+"/*")
	}
	for s := range filters() {
		all = append(all, has("'x' "+s), has("'x' ftand 'y' "+s+" ordered "+s), has("ftnot ('y' "+s+")"))
	}
	for i := range 1000 {
		all = append(all, has("'x' weight {"+strings.Repeat("7", i%6)+"0."+string([]byte{'0' + byte(i/100), '0' + byte(i/10%10), '0' + byte(i%10)})+"}"))
	}
	for _, s := range all {
		steps, e := lang.Parse(s)
		if e != api.OK {
			t.Fatalf("%s: error %v", s, e)
		}
		parses(t, lang.Text(steps), steps...)
	}
}
