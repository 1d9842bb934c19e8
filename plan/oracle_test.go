package plan_test

import (
	"math"
	"math/rand"
	"slices"
	"testing"

	"catchword/alike"
	"catchword/api"
	"catchword/lang"
	"catchword/plan"
)

// row is a part of a question, as it comes in the order in which errors are told.
type row struct {
	lang.Sel
	in    []*row // the parts that it is in
	below []*row // the parts that are in it
}

// rows are all parts of a step, each ahead of its Kids.
func rows(s lang.Step) []*row {
	var all []*row
	var walk func(kids []lang.Sel, in []*row)
	walk = func(kids []lang.Sel, in []*row) {
		for _, k := range kids {
			r := &row{Sel: k, in: slices.Clone(in)}
			for _, outer := range in {
				outer.below = append(outer.below, r)
			}
			all = append(all, r)
			walk(k.Kids, append(r.in, r))
		}
	}
	walk(s.Has, nil)
	return all
}

// faults are a part's errors, all of them, in the order of the promise.
func (r *row) faults() []api.Errno {
	var all []api.Errno
	tell := func(is bool, e api.Errno) {
		if is {
			all = append(all, e)
		}
	}
	off := func(n int) bool { return n < 0 || n > 1<<20 }
	n, known := kinds()[r.Kind]
	tell(len(r.in) > 200, api.ErrDeep)
	tell(!known, api.ErrArg)
	tell(known && len(r.Kids) != n, api.ErrArg)
	if r.Kind == lang.Words {
		tell(!slices.Contains([]lang.Mode{lang.Phrase, lang.Any, lang.All}, r.Mode), api.ErrArg)
		_, e := plan.Milli(r.Weight)
		tell(e != api.OK, e)
		for _, w := range plan.Split(r.Text, r.Opts.Wild) {
			_, e := alike.Make(w, r.Opts)
			tell(e != api.OK, e)
		}
		return all
	}
	for _, b := range r.below {
		tell(r.Kind == lang.Mild && (b.Kind == lang.Not || b.Kind == lang.Times), api.ErrType)
	}
	tell(r.Kind == lang.Window && off(r.N), api.ErrRange)
	if r.Kind == lang.Times || r.Kind == lang.Distance {
		tell(off(r.Range.Lo) || off(r.Range.Hi) || r.Range.Lo > r.Range.Hi, api.ErrRange)
	}
	tell(!slices.Contains([]api.Unit{api.Words, api.Sentences, api.Paragraphs}, r.Unit), api.ErrArg)
	return all
}

// first is the first error of steps, as the promise has it.
func first(steps []lang.Step) api.Errno {
	var all []api.Errno
	if len(steps) < 1 || len(steps) > 100 {
		return api.ErrArg
	}
	for _, s := range steps {
		if s.Name == "" || len(s.Has) > 1 {
			all = append(all, api.ErrArg)
		}
		for _, r := range rows(s) {
			all = append(all, r.faults()...)
		}
	}
	return append(all, api.OK)[0]
}

// asked is what steps that can be asked are, as the promise has it.
func asked(steps []lang.Step) []plan.Step {
	var all []plan.Step
	ahead := 0
	var node func(s lang.Sel) plan.Node
	node = func(s lang.Sel) plan.Node {
		n := plan.Node{Kind: s.Kind, Mode: s.Mode, N: s.N, Range: s.Range, Unit: s.Unit}
		if s.Kind == lang.Words {
			n.Part = ahead
			ahead++
			n.Weight = thousandths(s.Weight)
			for _, w := range plan.Split(s.Text, s.Opts.Wild) {
				if x, _ := alike.Make(w, s.Opts); s.Mode == lang.Phrase || !(s.Opts.Stop && alike.Stop(w)) {
					n.Words = append(n.Words, x)
				}
			}
		}
		for _, k := range s.Kids {
			n.Kids = append(n.Kids, node(k))
		}
		return n
	}
	for _, s := range steps {
		all = append(all, plan.Step{Deep: s.Deep, Name: s.Name})
		for _, h := range s.Has {
			all[len(all)-1].Has = append(all[len(all)-1].Has, node(h))
		}
	}
	return all
}

// asker makes questions, with a fault here and there.
type asker struct {
	*rand.Rand
	wrong int // one of so many things is wrong
	parts int // how many may still have Kids
}

// errs tells now and then that something is to be wrong.
func (a *asker) errs() bool { return a.Intn(a.wrong) == 0 }

// one is one of some values.
func one[T any](a *asker, of ...T) T { return of[a.Intn(len(of))] }

// number is a number of a question.
func (a *asker) number() int {
	if a.errs() {
		return one(a, -1, 1<<20+1, math.MaxInt, math.MinInt)
	}
	return one(a, 0, 1, 5, a.Intn(1<<20), 1<<20)
}

// text is Words.
func (a *asker) text() lang.Sel {
	bit := func() bool { return a.Intn(2) == 0 }
	s := lang.Sel{Kind: lang.Words, Mode: lang.Mode(a.Intn(3)), Weight: one(a, 0, 1, 2.5, 0.0005, 1000, a.Float64()*1000)}
	s.Opts = alike.Options{Case: bit(), Marks: bit(), Stem: bit(), Stop: bit(), Wild: bit()}
	for range a.Intn(5) {
		s.Text += one(a, "the", "Dogs", "r.+t", "é's", "OF", "d.", "x") + one(a, " ", "\t", "\n", "\r", "  ", ", ")
	}
	if s.Opts.Wild && (a.errs() || a.errs() || a.errs()) {
		s.Text += one(a, "{", "\xff", " x{ \xff", "\\", tooMany)
	}
	if a.errs() {
		s.Weight = one(a, math.NaN(), -1, 1001, math.Inf(1), -math.SmallestNonzeroFloat64)
	}
	if a.errs() {
		s.Mode = one(a, lang.Mode(-1), 3)
	}
	return s
}

// sel is a part.
func (a *asker) sel() lang.Sel {
	if a.parts--; a.parts < 0 || a.Intn(4) == 0 {
		return a.text()
	}
	s := lang.Sel{Kind: lang.Kind(2 + a.Intn(13)), N: a.number(), Unit: api.Unit(a.Intn(3)), Weight: one(a, 0, 2, math.NaN()), Mode: one(a, lang.Mode(0), 1, 7)}
	s.Range = api.Range{Lo: a.number(), Hi: a.number()}
	if s.Range.Lo > s.Range.Hi && !a.errs() {
		s.Range.Lo, s.Range.Hi = s.Range.Hi, s.Range.Lo
	}
	for range kinds()[s.Kind] {
		s.Kids = append(s.Kids, a.sel())
	}
	if a.errs() {
		s.Unit = one(a, api.Unit(-1), 3)
	}
	if a.errs() {
		s.Kids = s.Kids[1:]
	}
	if a.errs() {
		s.Kids = append(s.Kids, a.sel())
	}
	if a.errs() {
		s.Kind = one(a, lang.Kind(0), -1, 1, 15, 99)
	}
	if a.errs() && a.Intn(3) == 0 {
		s = others(one(a, lang.Or, lang.Same, lang.Mild), 195+a.Intn(10), s)
	}
	return s
}

// steps is a question.
func (a *asker) steps() []lang.Step {
	n := 1 + a.Intn(4)
	if a.errs() {
		n = one(a, 0, 100, 101)
	}
	steps := make([]lang.Step, n)
	for i := range steps {
		steps[i] = lang.Step{Name: one(a, "a", "b", "*"), Deep: a.Intn(2) == 0}
		if a.errs() {
			steps[i].Name = ""
		}
		for range a.Intn(2) {
			steps[i].Has = append(steps[i].Has, a.sel())
		}
		if a.errs() {
			steps[i].Has = append(steps[i].Has, a.sel())
		}
	}
	return steps
}

func TestMakeP142Oracle(t *testing.T) {
	a := &asker{Rand: rand.New(rand.NewSource(142))}
	count := map[api.Errno]int{}
	for i := range 40000 {
		a.wrong, a.parts = 1<<(4+i%6), 8
		steps := a.steps()
		want := first(steps)
		count[want]++
		made, e := plan.Make(steps)
		if e != want || e != api.OK && len(made) > 0 {
			t.Fatalf("%.2000s: got error %v and %d steps, want error %v", lang.Text(steps), e, len(made), want)
		}
		if e == api.OK && !sameSteps(made, asked(steps)) {
			t.Fatalf("%s: got %v, want %v", lang.Text(steps), made, asked(steps))
		}
	}
	for _, e := range []api.Errno{api.OK, api.ErrArg, api.ErrDeep, api.ErrRange, api.ErrType, api.ErrUTF, api.ErrQuery, api.ErrMany} {
		if count[e] < 100 {
			t.Errorf("only %d questions of error %v: %v", count[e], e, count)
		}
	}
}
