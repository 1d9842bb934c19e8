package lang_test

import (
	"slices"
	"strconv"
	"strings"
	"testing"

	"catchword/alike"
	"catchword/api"
	"catchword/lang"
)

// text is Words of a text, of which nothing is said.
func text(s string) lang.Sel { return lang.Sel{Kind: lang.Words, Text: s, Weight: 1} }

// of is a part of some Kids.
func of(kind lang.Kind, kids ...lang.Sel) lang.Sel { return lang.Sel{Kind: kind, Kids: kids} }

// same tells whether parts are the same, where no Kids may be nil or empty.
func same(a, b lang.Sel) bool {
	return a.Kind == b.Kind && a.Text == b.Text && a.Mode == b.Mode && a.Opts == b.Opts && a.Weight == b.Weight &&
		a.N == b.N && a.Range == b.Range && a.Unit == b.Unit && slices.EqualFunc(a.Kids, b.Kids, same)
}

// sameSteps tells whether steps are the same.
func sameSteps(a, b []lang.Step) bool {
	return slices.EqualFunc(a, b, func(x, y lang.Step) bool {
		return x.Deep == y.Deep && x.Name == y.Name && slices.EqualFunc(x.Has, y.Has, same)
	})
}

// fails checks that a text is no question, with which error.
func fails(t *testing.T, s string, want api.Errno) {
	t.Helper()
	steps, e := lang.Parse(s)
	if e != want || len(steps) > 0 {
		t.Errorf("%s: got %v and error %v, want error %v", short(s), steps, e, want)
	}
}

// parses checks the steps of a question.
func parses(t *testing.T, s string, want ...lang.Step) {
	t.Helper()
	steps, e := lang.Parse(s)
	if e != api.OK || !sameSteps(steps, want) {
		t.Errorf("%s: got %v and error %v, want %v", short(s), steps, e, want)
	}
}

// short is a text as it is told of a test.
func short(s string) string {
	if len(s) > 300 {
		s = s[:150] + " .. " + s[len(s)-150:]
	}
	return strconv.Quote(s)
}

// has is a question of one step, which has a part.
func has(s string) string { return "/a[contains text " + s + "]" }

// selects checks the part of a question.
func selects(t *testing.T, s string, want lang.Sel) {
	t.Helper()
	parses(t, has(s), lang.Step{Name: "a", Has: []lang.Sel{want}})
}

func TestParseP131Length(t *testing.T) {
	most := "/" + strings.Repeat("a", api.MaxText-1)
	parses(t, most, lang.Step{Name: most[1:]})
	fails(t, most+"a", api.ErrMany)
	parses(t, "/a"+strings.Repeat(" ", api.MaxText-2), lang.Step{Name: "a"})
	fails(t, "/a"+strings.Repeat(" ", api.MaxText-1), api.ErrMany)
	// Each error is told ahead of those named behind it.
	fails(t, strings.Repeat("\xff", api.MaxText+1), api.ErrMany)
	fails(t, strings.Repeat("#", api.MaxText+1), api.ErrMany)
	fails(t, strings.Repeat("\xff", api.MaxText), api.ErrUTF)
	fails(t, strings.Repeat("#", api.MaxText), api.ErrQuery)
}

func TestParseP131Signs(t *testing.T) {
	for _, s := range []string{
		"\xff", "/a\xff", "/a\x80b", "/a\xc3", "/\xed\xa0\x80", "/\xf4\x90\x80\x80", "/\xc0\xaf",
		"/a[contains text 'x\xff']", "/a[contains text '\xe2\x82']", "\xff/a", "# \xff", "'\xff", "/a]\xff",
	} {
		fails(t, s, api.ErrUTF)
	}
	parses(t, "/\u00e9\U0010ffff\ufffd", lang.Step{Name: "\u00e9\U0010ffff\ufffd"})
	selects(t, "'\u00e9\U0010ffff\x00\x7f\n'", text("\u00e9\U0010ffff\x00\x7f\n"))
}

func TestParseP131NoTokens(t *testing.T) {
	for _, s := range []string{"", " ", " \t\n\r ", "\n"} {
		fails(t, s, api.ErrQuery)
	}
	for _, c := range "#!$%&+,;<=>?@\\^`|~-\x00\x01\b\v\f\x1b\x1f\x7f" {
		s := string(c)
		fails(t, "/a "+s, api.ErrQuery)
		fails(t, s+"/a", api.ErrQuery)
		fails(t, "/"+s+"a", api.ErrQuery)
		fails(t, has("'x' "+s), api.ErrQuery)
		selects(t, "'"+s+"'", text(s))
	}
	// Where not all is tokens, nothing else is told.
	many := strings.Repeat("/a", api.MaxParts+1)
	deep := has(strings.Repeat("(", api.MaxDepth) + "'x'" + strings.Repeat(")", api.MaxDepth))
	fails(t, many, api.ErrMany)
	fails(t, deep, api.ErrDeep)
	for _, s := range []string{"#", " 'x", " \"", " -", "''''\""} {
		fails(t, many+s, api.ErrQuery)
		fails(t, deep+s, api.ErrQuery)
	}
}

func TestParseP131Blanks(t *testing.T) {
	a := lang.Step{Name: "a", Has: []lang.Sel{text("x")}}
	for _, s := range []string{
		"/a[contains text'x']", "/a[.contains text'x']", " / a [ . contains\ttext\n'x'\r] ", "\t\n\r /a[contains text\"x\"]\t\n\r ",
	} {
		parses(t, s, a)
	}
	for _, s := range []string{"/a[containstext'x']", "/ /a", "/a[contains-text 'x']", "/a[contains\u00a0text 'x']", "/a[contains\vtext'x']"} {
		fails(t, s, api.ErrQuery)
	}
	parses(t, "/a\u00a0[contains text'x']", lang.Step{Name: "a\u00a0", Has: a.Has})
	selects(t, "'x'any word", lang.Sel{Kind: lang.Words, Text: "x", Mode: lang.Any, Weight: 1})
	selects(t, "'x'ftor'y'", of(lang.Or, text("x"), text("y")))
	selects(t, "'x'weight{2}occurs exactly 3times", lang.Sel{Kind: lang.Times, Range: api.Range{Lo: 3, Hi: 3}, Kids: []lang.Sel{{Kind: lang.Words, Text: "x", Weight: 2}}})
	selects(t, "'x'window 5words", lang.Sel{Kind: lang.Window, N: 5, Kids: []lang.Sel{text("x")}})
	fails(t, has("'x' window5 words"), api.ErrQuery)
	fails(t, has("'x' anyword"), api.ErrQuery)
}

func TestParseP131Texts(t *testing.T) {
	for s, want := range map[string]string{
		`"dog"`: "dog", `'dog'`: "dog", `""`: "", `''`: "", `" "`: " ", `'  a  b '`: "  a  b ",
		`'it''s'`: "it's", `"a""b"`: `a"b`, `''''`: "'", `""""`: `"`, `''''''`: "''", `'''a'`: "'a", `'a'''`: "a'",
		`'a"b'`: `a"b`, `"it's"`: "it's", `'""'`: `""`, `"''"`: "''", `'a''''b'`: "a''b", `'//*[](){}.#\n'`: `//*[](){}.#\n`,
		`"ftor"`: "ftor", `'5'`: "5", `'text'`: "text", `"Résumé"`: "Résumé",
	} {
		selects(t, s, text(want))
	}
	for _, s := range []string{`'`, `"`, `'''`, `"""`, `'a`, `'a''`, `"a'`, `'a"`, `'a' 'b'`, `'a'"b"`, `"a"'b'`, `'a' ''`} {
		fails(t, "/a[contains text "+s, api.ErrQuery)
		fails(t, has(s), api.ErrQuery)
	}
	// A text is no word of the grammar, and no name.
	for _, s := range []string{"/'a'", "'/'a", "/'*'", "/a[contains 'text' 'x']", "/a['contains' text 'x']", "/a'['contains text 'x']", "/a[contains text 'x''ftor''y']x"} {
		fails(t, s, api.ErrQuery)
	}
	fails(t, has(`"x" "ftor" "y"`), api.ErrQuery)
	fails(t, has(`'(' "x" ')'`), api.ErrQuery)
	fails(t, has(`"x" 'window' 5 words`), api.ErrQuery)
	fails(t, has(`"x" window '5' words`), api.ErrQuery)
}

func TestParseP131Words(t *testing.T) {
	for _, name := range []string{
		"a", "Z", "_", ":", "a1", "a-", "a-b", "_-1", "a:b", ":a:", "x--", "A0-9_:z", "é", "日本", "a日-本1", "\u0080", "\u2003",
	} {
		parses(t, "/"+name, lang.Step{Name: name})
		parses(t, "//"+name+"/b", lang.Step{Deep: true, Name: name}, lang.Step{Name: "b"})
	}
	for _, s := range []string{"/1", "/-", "/-a", "/1a", "/a.b", "/a b", "/.", "/a.", "/1.5", "/a 1", "/a'x'"} {
		fails(t, s, api.ErrQuery)
	}
	// Words of the grammar are such as they are written, and names too.
	for _, name := range []string{"contains", "text", "ftor", "ftand", "not", "in", "ftnot", "any", "using", "window", "at", "times", "words"} {
		parses(t, "/"+name+"//"+name+"[contains text '"+name+"']", lang.Step{Name: name}, lang.Step{Deep: true, Name: name, Has: []lang.Sel{text(name)}})
	}
	for _, s := range []string{"'x' FTOR 'y'", "'x' Ftor 'y'", "'x' ftor1 'y'", "'x' ftor- 'y'", "'x' ftor: 'y'", "'x' :ftor 'y'", "'x' ft or 'y'"} {
		fails(t, has(s), api.ErrQuery)
	}
	fails(t, "/a[Contains text 'x']", api.ErrQuery)
	fails(t, "/a[contains Text 'x']", api.ErrQuery)
}

func TestParseP131Steps(t *testing.T) {
	parses(t, "/a", lang.Step{Name: "a"})
	parses(t, "//a", lang.Step{Deep: true, Name: "a"})
	parses(t, "/*", lang.Step{Name: "*"})
	parses(t, "//*", lang.Step{Deep: true, Name: "*"})
	parses(t, "/*/*//*", lang.Step{Name: "*"}, lang.Step{Name: "*"}, lang.Step{Deep: true, Name: "*"})
	parses(t, "/a//b/c", lang.Step{Name: "a"}, lang.Step{Deep: true, Name: "b"}, lang.Step{Name: "c"})
	x, y := []lang.Sel{text("x")}, []lang.Sel{text("y")}
	parses(t, "/a[contains text 'x']", lang.Step{Name: "a", Has: x})
	parses(t, "/a[. contains text 'x']", lang.Step{Name: "a", Has: x})
	parses(t, "//*[. contains text 'x']/b//c[contains text 'y']", lang.Step{Deep: true, Name: "*", Has: x}, lang.Step{Name: "b"}, lang.Step{Deep: true, Name: "c", Has: y})
	for _, s := range []string{
		"a", "*", "/", "//", "///", "///a", "////a", "/a/", "/a//", "a/b", "/a b", "/a*", "/**", "/a]", "]", "/a[", "/a[]", "/a[.]",
		"/a[contains]", "/a[contains text]", "/a[contains text ]", "/a[contains 'x']", "/a[text 'x']", "/a['x']", "/a[. text 'x']",
		"/a[.. contains text 'x']", "/a[contains . text 'x']", "/a[contains text . 'x']", "/a[contains text 'x'", "/a[contains text 'x' .]",
		"/a[contains text 'x']]", "/a[contains text 'x'][contains text 'y']", "/a[[contains text 'x']]", "/a(contains text 'x')", "/a{contains text 'x'}",
		"/[contains text 'x']", "[contains text 'x']", ".", "./a", "/a.", "/a[contains text x]", "/a[contains text 5]", "/a[contains text *]", "/a[contains text .]",
		"'x'", "contains text 'x'", "/a contains text 'x'", "/a[text contains 'x']", "/a[contains contains text 'x']", "/a[contains text text 'x']",
	} {
		fails(t, s, api.ErrQuery)
	}
}

func TestParseP131ManySteps(t *testing.T) {
	var want []lang.Step
	s := ""
	for i := range api.MaxParts {
		name := "n" + strconv.Itoa(i)
		want = append(want, lang.Step{Deep: i%3 == 0, Name: name})
		s += map[bool]string{true: "//", false: "/"}[i%3 == 0] + name
	}
	parses(t, s, want...)
	for _, more := range []string{"/a", "//a", "/", "//", "/]", "/a[", "/a[contains text 'x' foo]", "/a/b/c"} {
		fails(t, s+more, api.ErrMany)
	}
	// What isn't the beginning of a step is no step that is too many.
	for _, more := range []string{"]", " a", "'x'", "[contains text]", ".", " 5", "*"} {
		fails(t, s+more, api.ErrQuery)
	}
	fails(t, s[:len(s)-3]+"//a", api.ErrQuery)
	fails(t, strings.Replace(s, "n50", "5", 1)+"/a", api.ErrQuery)
	fails(t, strings.Repeat("/a[contains text 'x']", api.MaxParts)+"/a", api.ErrMany)
}

func TestParseP131NothingShared(t *testing.T) {
	s := has("'x' ftor 'y' ftor 'z' ordered window 5 words") + "/b[contains text ftnot 'u' not in 'v']"
	one, _ := lang.Parse(s)
	two, _ := lang.Parse(s)
	want := lang.Text(two)
	overSteps(one)
	if got := lang.Text(two); got != want {
		t.Errorf("got %s, want %s", got, want)
	}
	// Each list of an answer is written over behind its end, from the last to the first one.
	three, _ := lang.Parse(s)
	behindSteps(three)
	if got := lang.Text(three); got != want {
		t.Errorf("got %s, want %s", got, want)
	}
}

// overSteps writes over all of an answer.
func overSteps(steps []lang.Step) {
	for i := range steps {
		overSels(steps[i].Has)
	}
	clear(steps[:cap(steps)])
}

// overSels writes over parts and their Kids.
func overSels(sels []lang.Sel) {
	for i := range sels {
		overSels(sels[i].Kids)
	}
	clear(sels[:cap(sels)])
}

// behindSteps writes behind the ends of an answer's lists.
func behindSteps(steps []lang.Step) {
	clear(steps[len(steps):cap(steps)])
	for i := range steps {
		behindSels(steps[i].Has)
	}
}

// behindSels writes behind the ends of parts and their Kids.
func behindSels(sels []lang.Sel) {
	clear(sels[len(sels):cap(sels)])
	for i := range sels {
		behindSels(sels[i].Kids)
	}
}

// options is all choices of options.
func options() []alike.Options {
	var all []alike.Options
	for i := range 32 {
		all = append(all, alike.Options{Case: i&1 != 0, Marks: i&2 != 0, Stem: i&4 != 0, Stop: i&8 != 0, Wild: i&16 != 0})
	}
	return all
}
