package plan_test

import (
	"math"
	"reflect"
	"slices"
	"testing"

	"catchword/alike"
	"catchword/api"
	"catchword/lang"
	"catchword/plan"
)

// same tells whether parts are the same, where no Kids and no Words may be nil or empty.
func same(a, b plan.Node) bool {
	return a.Kind == b.Kind && a.Mode == b.Mode && a.Part == b.Part && a.Weight == b.Weight && a.N == b.N && a.Range == b.Range && a.Unit == b.Unit &&
		slices.EqualFunc(a.Words, b.Words, func(x, y alike.Word) bool { return reflect.DeepEqual(x, y) }) && slices.EqualFunc(a.Kids, b.Kids, same)
}

// sameSteps tells whether steps are the same.
func sameSteps(a, b []plan.Step) bool {
	return slices.EqualFunc(a, b, func(x, y plan.Step) bool {
		return x.Deep == y.Deep && x.Name == y.Name && slices.EqualFunc(x.Has, y.Has, same)
	})
}

// node is what is made of a part.
func node(t *testing.T, s lang.Sel) plan.Node {
	t.Helper()
	made := makes(t, has(s))
	if len(made[0].Has) != 1 {
		t.Fatalf("%s: got %v", s.Print(), made)
	}
	return made[0].Has[0]
}

// words are layer 8's words of texts.
func words(t *testing.T, o alike.Options, texts ...string) []alike.Word {
	t.Helper()
	var all []alike.Word
	for _, s := range texts {
		w, e := alike.Make(s, o)
		if e != api.OK {
			t.Fatal(s, e)
		}
		all = append(all, w)
	}
	return all
}

func TestMakeP143Words(t *testing.T) {
	for _, c := range []struct {
		text string
		opts alike.Options
		want []string
	}{
		{"", alike.Options{}, nil},
		{" .,! ", alike.Options{}, nil},
		{"dog", alike.Options{}, []string{"dog"}},
		{"The dog's Résumé", alike.Options{}, []string{"The", "dog", "s", "Résumé"}},
		{"The dog's Résumé", alike.Options{Case: true, Marks: true, Stem: true}, []string{"The", "dog", "s", "Résumé"}},
		{"dog dog dog", alike.Options{Stem: true}, []string{"dog", "dog", "dog"}},
		{"r.+t the {x}", alike.Options{}, []string{"r", "t", "the", "x"}},
		{"r.+t the d\\.g .{2,3} ' it's", alike.Options{Wild: true}, []string{"r.+t", "the", "d\\.g", ".{2,3}", "'", "it's"}},
		{"\r\n", alike.Options{Wild: true}, nil},
		{"x\xffy", alike.Options{}, []string{"x", "y"}},
	} {
		for _, mode := range []lang.Mode{lang.Phrase, lang.Any, lang.All} {
			s := lang.Sel{Kind: lang.Words, Text: c.text, Opts: c.opts, Mode: mode, Weight: 1}
			want := plan.Node{Kind: lang.Words, Mode: mode, Weight: 1000, Words: words(t, c.opts, c.want...)}
			if got := node(t, s); !same(got, want) {
				t.Errorf("%s: got %v, want %v", s.Print(), got, want)
			}
		}
	}
}

func TestMakeP143Any(t *testing.T) {
	stop := alike.Options{Stop: true}
	wild := alike.Options{Stop: true, Wild: true}
	for _, c := range []struct {
		text string
		opts alike.Options
		all  []string // in a phrase
		less []string // else
	}{
		{"the dog of THE cat", stop, []string{"the", "dog", "of", "THE", "cat"}, []string{"dog", "cat"}},
		{"The the of", stop, []string{"The", "the", "of"}, nil},
		{"the", stop, []string{"the"}, nil},
		{"dog the", stop, []string{"dog", "the"}, []string{"dog"}},
		{"the d.g of. of", wild, []string{"the", "d.g", "of.", "of"}, []string{"d.g", "of."}},
		{"the of\tIS", wild, []string{"the", "of", "IS"}, nil},
		{"the dog of", alike.Options{}, []string{"the", "dog", "of"}, []string{"the", "dog", "of"}},
		{"the .* of", alike.Options{Wild: true}, []string{"the", ".*", "of"}, []string{"the", ".*", "of"}}, // a pattern of all words isn't Any
	} {
		for mode, texts := range map[lang.Mode][]string{lang.Phrase: c.all, lang.Any: c.less, lang.All: c.less} {
			s := lang.Sel{Kind: lang.Words, Text: c.text, Opts: c.opts, Mode: mode, Weight: 1}
			want := plan.Node{Kind: lang.Words, Mode: mode, Weight: 1000, Words: words(t, c.opts, texts...)}
			if got := node(t, s); !same(got, want) {
				t.Errorf("%s: got %v, want %v", s.Print(), got, want)
			}
		}
	}
	// Words of which none is left are still Words.
	got := node(t, of(lang.Or, lang.Sel{Kind: lang.Words, Text: "the", Mode: lang.All, Opts: stop, Weight: 2}, text("x")))
	want := plan.Node{Kind: lang.Or, Kids: []plan.Node{{Kind: lang.Words, Mode: lang.All, Weight: 2000}, {Kind: lang.Words, Part: 1, Weight: 1000, Words: words(t, alike.Options{}, "x")}}}
	if !same(got, want) {
		t.Errorf("got %v, want %v", got, want)
	}
}

func TestMakeP143Parts(t *testing.T) {
	for kind, n := range kinds() {
		s := full(kind)
		s.Mode, s.N, s.Range, s.Unit, s.Weight = lang.All, 7, api.Range{Lo: 2, Hi: 4}, api.Sentences, 2.5
		want := plan.Node{Kind: kind, Mode: lang.All, N: 7, Range: s.Range, Unit: api.Sentences}
		if kind == lang.Words {
			s.Text, want.Words, want.Weight = "x y", words(t, alike.Options{}, "x", "y"), 2500
		}
		for i := range n {
			want.Kids = append(want.Kids, plan.Node{Kind: lang.Words, Part: i, Weight: 1000, Words: words(t, alike.Options{}, s.Kids[i].Text)})
		}
		if got := node(t, s); !same(got, want) {
			t.Errorf("%s: got %v, want %v", s.Print(), got, want)
		}
	}
	for _, r := range []api.Range{{}, {Lo: 0, Hi: api.MaxNumber}, {Lo: api.MaxNumber, Hi: api.MaxNumber}, {Lo: 3, Hi: 3}} {
		for _, kind := range []lang.Kind{lang.Times, lang.Distance} {
			if got := node(t, span(kind, r.Lo, r.Hi)); got.Range != r {
				t.Error(kind, got.Range)
			}
		}
	}
	for _, n := range []int{0, 1, api.MaxNumber} {
		if got := node(t, window(n)); got.N != n {
			t.Error(n, got.N)
		}
	}
	for _, unit := range []api.Unit{api.Words, api.Sentences, api.Paragraphs} {
		if got := node(t, lang.Sel{Kind: lang.Apart, Kids: []lang.Sel{text("x")}, Unit: unit}); got.Unit != unit {
			t.Error(unit, got.Unit)
		}
	}
}

func TestMakeP143Steps(t *testing.T) {
	x := []plan.Node{{Kind: lang.Words, Weight: 1000, Words: words(t, alike.Options{}, "x")}}
	got := makes(t, []lang.Step{{Name: "a"}, {Deep: true, Name: "*"}, {Name: "é\xff /", Has: []lang.Sel{text("x")}}, {Deep: true, Name: "a", Has: []lang.Sel{}}})
	if want := []plan.Step{{Name: "a"}, {Deep: true, Name: "*"}, {Name: "é\xff /", Has: x}, {Deep: true, Name: "a"}}; !sameSteps(got, want) {
		t.Errorf("got %v, want %v", got, want)
	}
	most := make([]lang.Step, api.MaxParts)
	for i := range most {
		most[i] = lang.Step{Deep: i%3 == 0, Name: string(rune('a' + i%26)), Has: []lang.Sel{text("x")}[:i%2]}
	}
	for i, s := range makes(t, most) {
		if s.Deep != most[i].Deep || s.Name != most[i].Name || len(s.Has) != i%2 || i%2 == 1 && s.Has[0].Part != i/2 {
			t.Error(i, s)
		}
	}
}

// texts is the Part of each Words, as they follow each other.
func texts(n plan.Node) []int {
	if n.Kind == lang.Words {
		return []int{n.Part}
	}
	var all []int
	for _, k := range n.Kids {
		all = append(all, texts(k)...)
	}
	return all
}

func TestMakeP143Part(t *testing.T) {
	two := func(kind lang.Kind) lang.Sel { return of(kind, text("x"), text("y")) }
	var steps []lang.Step
	counts := []int{}
	for _, kind := range []lang.Kind{lang.Not, lang.Times, lang.Ordered, lang.Window, lang.Distance, lang.Same, lang.Apart, lang.First, lang.Last, lang.Entire} {
		steps = append(steps, has(of(kind, two(lang.And)))[0], lang.Step{Name: "b"})
		counts = append(counts, 2, 0)
	}
	empty := text("")
	for _, s := range []lang.Sel{two(lang.Mild), text("x"), of(lang.Or, of(lang.And, text("x"), empty), of(lang.Mild, empty, two(lang.Or))), empty, of(lang.Or, two(lang.Or), two(lang.And)), text("a b c")} {
		steps = append(steps, has(s)[0])
		counts = append(counts, len(texts(node(t, s))))
	}
	ahead := 0
	for i, s := range makes(t, steps) {
		var got []int
		for _, n := range s.Has {
			got = append(got, texts(n)...)
		}
		if len(got) != counts[i] {
			t.Errorf("step %d: got %v", i, got)
		}
		for _, part := range got {
			if part != ahead {
				t.Errorf("step %d: got %v, and %d are ahead", i, got, ahead)
			}
			ahead++
		}
	}
	if ahead != 20+2+1+5+1+4+1 {
		t.Error(ahead)
	}
}

func TestMakeP143Weight(t *testing.T) {
	for w, want := range map[float64]int{0: 0, math.Copysign(0, -1): 0, 0.0005: 1, 0.25: 250, 1: 1000, 1.5: 1500, 999.9996: 1000000, 1000: 1000000} {
		if got := node(t, weighs(w)); got.Weight != want {
			t.Errorf("%v: got %d, want %d", w, got.Weight, want)
		}
		got := node(t, of(lang.And, weighs(w), of(lang.Or, text("y"), weighs(w))))
		if got.Kids[0].Weight != want || got.Kids[1].Kids[0].Weight != 1000 || got.Kids[1].Kids[1].Weight != want {
			t.Errorf("%v: got %v", w, got)
		}
	}
	// Only Words have one.
	for kind, n := range kinds() {
		for _, w := range []float64{0, 1, 2.5, 1000, 1001, -1, math.NaN(), math.Inf(1)} {
			s := full(kind)
			if s.Weight = w; n > 0 && node(t, s).Weight != 0 {
				t.Errorf("%s of weight %v: got %v", s.Print(), w, node(t, s))
			}
		}
	}
}

func TestTextP143(t *testing.T) {
	for _, s := range []string{
		"/a", "//a/*//b", "/a[contains text 'x']", "//a[. contains text 'the dog' using stop words ftand ('x y' any word weight {0.25} ftor 'r.+ s' all words using wildcards) window 5 words]/b[contains text ftnot 'é']",
		"//*[contains text 'x' occurs from 2 to 3 times distance at least 1 sentences different paragraph at start at end entire content same sentence ordered]",
		"/a[contains text 'the' any word using stop words ftor 'x']", "/a[contains text 'x' not in 'x y']//b[contains text 'z' weight {12.3456}]",
	} {
		steps, e := lang.Parse(s)
		if e != api.OK {
			t.Fatal(s, e)
		}
		want := makes(t, steps)
		if got, e := plan.Text(s); e != api.OK || !sameSteps(got, want) {
			t.Errorf("%s: got %v and error %v, want %v", s, got, e, want)
		}
	}
	got, e := plan.Text("//a/b[contains text 'Dogs run' all words using stemming weight {2.5} ftand 'x' window 5 sentences]")
	want := []plan.Step{{Deep: true, Name: "a"}, {Name: "b", Has: []plan.Node{{Kind: lang.Window, N: 5, Unit: api.Sentences, Kids: []plan.Node{{Kind: lang.And, Kids: []plan.Node{
		{Kind: lang.Words, Mode: lang.All, Weight: 2500, Words: words(t, alike.Options{Stem: true}, "Dogs", "run")},
		{Kind: lang.Words, Part: 1, Weight: 1000, Words: words(t, alike.Options{}, "x")},
	}}}}}}}
	if e != api.OK || !sameSteps(got, want) {
		t.Errorf("got %v and error %v, want %v", got, e, want)
	}
}

// copied is steps of which no list is shared.
func copied(steps []lang.Step) []lang.Step {
	var sels func(all []lang.Sel) []lang.Sel
	sels = func(all []lang.Sel) []lang.Sel {
		all = slices.Clone(all)
		for i := range all {
			all[i].Kids = sels(all[i].Kids)
		}
		return all
	}
	steps = slices.Clone(steps)
	for i := range steps {
		steps[i].Has = sels(steps[i].Has)
	}
	return steps
}

// spoil writes over parts, their Kids and their Words, as far as the lists' room goes.
func spoil(all []plan.Node) {
	for _, n := range all[:cap(all)] {
		spoil(n.Kids)
		clear(n.Words[:cap(n.Words)])
	}
	clear(all[:cap(all)])
}

// TestMakeP143Own holds what was given to what it was, and writes over one list of an answer after the other.
func TestMakeP143Own(t *testing.T) {
	x := lang.Sel{Kind: lang.Words, Text: "the dog", Opts: alike.Options{Stop: true}, Weight: 1}
	shared := []lang.Sel{x, pattern("d.g")}
	steps := []lang.Step{
		{Name: "a", Has: []lang.Sel{of(lang.Or, of(lang.And, shared...), of(lang.And, shared...))}},
		{Name: "b", Has: []lang.Sel{of(lang.Mild, of(lang.Same, x), x)}},
		{Name: "c", Has: shared[:1]},
	}
	was := copied(steps)
	made, again := makes(t, steps), makes(t, steps)
	if !reflect.DeepEqual(steps, was) {
		t.Error("what was given is changed")
	}
	spoil(made[0].Has[0].Kids[0].Kids)
	if !sameSteps(made[1:], again[1:]) || !same(made[0].Has[0].Kids[1], again[0].Has[0].Kids[1]) || made[0].Has[0].Kids[0].Kind != lang.And {
		t.Error("lists of an answer are shared")
	}
	clear(made[1].Has[0].Kids[0].Kids[0].Words)
	if !same(made[1].Has[0].Kids[1], again[1].Has[0].Kids[1]) {
		t.Error("words of an answer are shared")
	}
	for _, s := range made {
		spoil(s.Has)
	}
	clear(made[:cap(made)])
	if !reflect.DeepEqual(steps, was) || !sameSteps(again, makes(t, steps)) {
		t.Error("an answer shares what was given, or another answer's")
	}
	// What is given may be written over.
	spoiled := copied(steps)
	before := makes(t, spoiled)
	clear(spoiled[0].Has[0].Kids[1].Kids)
	clear(spoiled[0].Has[0].Kids)
	clear(spoiled[1].Has)
	clear(spoiled)
	if !sameSteps(before, again) {
		t.Error("an answer keeps what was given")
	}
	// What is refused is as it was, too.
	for _, last := range []lang.Sel{weighs(-1), pattern(open), of(lang.Mild, shared[0], full(lang.Not)), {}} {
		bad := append(copied(steps), has(of(lang.And, shared[1], last))...)
		was := copied(bad)
		if made, e := plan.Make(bad); e == api.OK || len(made) > 0 || !reflect.DeepEqual(bad, was) {
			t.Error(last, made, e)
		}
	}
}
