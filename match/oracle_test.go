package match_test

import (
	"fmt"
	"math/rand"
	"slices"
	"testing"

	"catchword/api"
	"catchword/match"
)

// The promises written out a second time, word by word, on matches by chance.

// randomSpans is so many spans at most, that lie close together.
func randomSpans(r *rand.Rand, most int) []match.Span {
	var spans []match.Span
	for range r.Intn(most + 1) {
		from := r.Intn(9)
		spans = append(spans, match.Span{From: from, To: from + r.Intn(1+r.Intn(5)), Part: r.Intn(4), Weight: r.Intn(2000)})
	}
	return spans
}

// randomList is so many matches at most.
func randomList(r *rand.Rand, most int) []match.Match {
	var all []match.Match
	for range r.Intn(most + 1) {
		all = append(all, match.Match{In: randomSpans(r, 4), Out: randomSpans(r, 3)})
	}
	return all
}

// randomText is a text of places from 0 to 14.
func randomText(r *rand.Rand) match.Text {
	t := match.Text{From: r.Intn(4)}
	t.To = t.From + r.Intn(10)
	for at := 1; at < 14; at++ {
		if r.Intn(4) == 0 {
			t.Sentences = append(t.Sentences, at)
		}
		if r.Intn(7) == 0 {
			t.Paragraphs = append(t.Paragraphs, at)
		}
	}
	return t
}

// copied is matches in memory of their own.
func copied(a []match.Match) []match.Match {
	var all []match.Match
	for _, m := range a {
		all = append(all, match.Match{In: slices.Clone(m.In), Out: slices.Clone(m.Out)})
	}
	return all
}

// both is one match with what two have.
func both(x, y match.Match) match.Match {
	return match.Match{In: append(slices.Clone(x.In), y.In...), Out: append(slices.Clone(x.Out), y.Out...)}
}

func plainAnd(a, b []match.Match) ([]match.Match, api.Errno) {
	if len(a)*len(b) > 400 {
		return nil, api.ErrMatch
	}
	var all []match.Match
	for _, x := range a {
		for _, y := range b {
			all = append(all, both(x, y))
		}
	}
	return all, api.OK
}

func plainNot(a []match.Match) ([]match.Match, api.Errno) {
	all, e := []match.Match{{}}, api.OK
	for _, m := range a {
		var turned []match.Match
		for _, s := range m.In {
			turned = append(turned, match.Match{Out: []match.Span{s}})
		}
		for _, s := range m.Out {
			turned = append(turned, match.Match{In: []match.Span{s}})
		}
		if all, e = plainAnd(all, turned); e != api.OK {
			return nil, e
		}
	}
	return all, api.OK
}

func plainMild(a, b []match.Match) []match.Match {
	var all []match.Match
	for _, m := range a {
		lies := false
		for _, s := range m.In {
			for _, other := range b {
				for _, o := range other.In {
					lies = lies || s.From >= o.From && s.To <= o.To
				}
			}
		}
		if !lies {
			all = append(all, m)
		}
	}
	return all
}

// plainSome goes from length to length, and leaves out what can't be made full.
func plainSome(a []match.Match, n int) ([]match.Match, api.Errno) {
	ways := [][]int{nil}
	for k := 1; k <= n; k++ {
		var longer [][]int
		for _, w := range ways {
			for i := range a {
				if (len(w) == 0 || i > w[len(w)-1]) && len(a)-1-i >= n-k {
					longer = append(longer, append(slices.Clone(w), i))
				}
			}
		}
		if ways = longer; len(ways) > 400 {
			return nil, api.ErrMatch
		}
	}
	var all []match.Match
	for _, w := range ways {
		var m match.Match
		for _, i := range w {
			m = both(m, a[i])
		}
		all = append(all, m)
	}
	return all, api.OK
}

func plainTimes(a []match.Match, r api.Range) ([]match.Match, api.Errno) {
	if r.Hi < 0 {
		return nil, api.OK
	}
	all, e := plainSome(a, r.Lo)
	if e != api.OK || r.Hi >= len(a) {
		return all, e
	}
	more, e := plainSome(a, r.Hi+1)
	if e != api.OK {
		return nil, e
	}
	no, e := plainNot(more)
	if e != api.OK {
		return nil, e
	}
	return plainAnd(all, no)
}

// let is the matches that a rule lets through, without the Out that another rule drops.
func let(a []match.Match, lets func(in []match.Span) bool, drops func(in []match.Span, out match.Span) bool) []match.Match {
	var all []match.Match
	for _, m := range a {
		if !lets(m.In) {
			continue
		}
		var out []match.Span
		for _, s := range m.Out {
			if !drops(m.In, s) {
				out = append(out, s)
			}
		}
		all = append(all, match.Match{In: m.In, Out: out})
	}
	return all
}

func never([]match.Span, match.Span) bool { return false }

func plainOrdered(a []match.Match) []match.Match {
	inOrder := func(x, y match.Span) bool {
		switch {
		case x.Part < y.Part:
			return x.From <= y.From
		case x.Part > y.Part:
			return y.From <= x.From
		}
		return true
	}
	eachWith := func(in []match.Span, out match.Span) bool {
		for _, s := range in {
			if !inOrder(s, out) {
				return false
			}
		}
		return true
	}
	return let(a, func(in []match.Span) bool {
		for _, s := range in {
			if !eachWith(in, s) {
				return false
			}
		}
		return true
	}, func(in []match.Span, out match.Span) bool { return !eachWith(in, out) })
}

// plainRank counts one by one.
func plainRank(t match.Text, u api.Unit, at int) int {
	if u == api.Words {
		return at
	}
	rank := 0
	for _, start := range [...][]int{api.Sentences: t.Sentences, api.Paragraphs: t.Paragraphs}[u] {
		if start <= at {
			rank++
		}
	}
	return rank
}

func plainWide(t match.Text, u api.Unit, spans []match.Span) int {
	if len(spans) == 0 {
		return 0
	}
	var firsts, lasts []int
	for _, s := range spans {
		firsts = append(firsts, plainRank(t, u, s.From))
		lasts = append(lasts, plainRank(t, u, s.To))
	}
	return slices.Max(lasts) - slices.Min(firsts) + 1
}

func plainWindow(t match.Text, a []match.Match, n int, u api.Unit) []match.Match {
	return let(a, func(in []match.Span) bool { return plainWide(t, u, in) <= n },
		func(in []match.Span, out match.Span) bool {
			return plainWide(t, u, append(slices.Clone(in), out)) > n
		})
}

func plainDistance(t match.Text, a []match.Match, r api.Range, u api.Unit) []match.Match {
	return let(a, func(in []match.Span) bool {
		in = slices.Clone(in)
		slices.SortFunc(in, func(x, y match.Span) int { return (x.From-y.From)*100 + x.To - y.To })
		for i := range in {
			if i == 0 {
				continue
			}
			gap := plainRank(t, u, in[i].From) - plainRank(t, u, in[i-1].To)
			if u == api.Words {
				gap--
			}
			if gap < r.Lo || gap > r.Hi {
				return false
			}
		}
		return true
	}, never)
}

func plainApart(t match.Text, a []match.Match, u api.Unit) []match.Match {
	return let(a, func(in []match.Span) bool {
		taken := map[int]bool{}
		for _, s := range in {
			for rank := plainRank(t, u, s.From); rank <= plainRank(t, u, s.To); rank++ {
				if taken[rank] {
					return false
				}
				taken[rank] = true
			}
		}
		return true
	}, never)
}

// plainAt lets matches through one of whose spans is so.
func plainAt(a []match.Match, so func(s match.Span) bool) []match.Match {
	return let(a, func(in []match.Span) bool { return slices.ContainsFunc(in, so) }, never)
}

func plainEntire(t match.Text, a []match.Match) []match.Match {
	return let(a, func(in []match.Span) bool {
		for at := t.From; at < t.To; at++ {
			if !slices.ContainsFunc(in, func(s match.Span) bool { return s.From <= at && at <= s.To }) {
				return false
			}
		}
		return true
	}, never)
}

// agree checks that both answered the same.
func agree(t *testing.T, name string, a []match.Match, got, want []match.Match) {
	t.Helper()
	if !same(got, want) {
		t.Fatalf("%s of %v: got %v, want %v", name, a, got, want)
	}
}

func TestPartsByTheWordsP121P123(t *testing.T) {
	r := rand.New(rand.NewSource(12))
	for range 20000 {
		a, b := randomList(r, 5), randomList(r, 5)
		got, e := match.And(a, b)
		want, _ := plainAnd(a, b)
		isOK(t, e)
		agree(t, "And", a, got, want)
		got, e = match.Or(a, b)
		isOK(t, e)
		agree(t, "Or", a, got, append(slices.Clone(a), b...))
		got, e = match.Not(a)
		want, wantE := plainNot(a)
		if e != wantE {
			t.Fatalf("Not of %v: error %v, want %v", a, e, wantE)
		}
		agree(t, "Not", a, got, want)
		if e == api.OK && match.Holds(got) == match.Holds(a) {
			t.Fatalf("Not of %v holds as it does", a)
		}
		agree(t, "Mild", a, match.Mild(a, b), plainMild(a, b))
		times := api.Range{Lo: r.Intn(8) - 1, Hi: r.Intn(8) - 1}
		got, e = match.Times(a, times)
		want, wantE = plainTimes(a, times)
		if e != wantE {
			t.Fatalf("Times %v of %v: error %v, want %v", times, a, e, wantE)
		}
		agree(t, fmt.Sprint("Times ", times), a, got, want)
	}
}

func isOK(t *testing.T, e api.Errno) {
	t.Helper()
	if e != api.OK {
		t.Fatal("error", e)
	}
}

func TestManyTimesByTheWordsP123(t *testing.T) {
	for size := range 16 {
		for n := -1; n <= size+2; n++ {
			a := many(size)
			got, e := match.Times(a, api.Range{Lo: n, Hi: size})
			want, wantE := plainSome(a, n)
			if e != wantE {
				t.Fatalf("%d of %d: error %v, want %v", n, size, e, wantE)
			}
			agree(t, fmt.Sprint("Times ", n), a, got, want)
		}
	}
}

func TestThroughByTheWordsP122(t *testing.T) {
	r := rand.New(rand.NewSource(22))
	for range 20000 {
		a, text := randomList(r, 5), randomText(r)
		u := api.Unit(r.Intn(3))
		n := r.Intn(9) - 1
		gaps := api.Range{Lo: r.Intn(6) - 3}
		gaps.Hi = gaps.Lo + r.Intn(8) - 1
		name := fmt.Sprintf("(%+v, %v, %d, %v)", text, u, n, gaps)
		agree(t, "Ordered"+name, a, match.Ordered(a), plainOrdered(a))
		agree(t, "Window"+name, a, text.Window(a, n, u), plainWindow(text, a, n, u))
		agree(t, "Same"+name, a, text.Same(a, u), plainWindow(text, a, 1, u))
		agree(t, "Distance"+name, a, text.Distance(a, gaps, u), plainDistance(text, a, gaps, u))
		agree(t, "Apart"+name, a, text.Apart(a, u), plainApart(text, a, u))
		agree(t, "First"+name, a, text.First(a), plainAt(a, func(s match.Span) bool { return s.From == text.From }))
		agree(t, "Last"+name, a, text.Last(a), plainAt(a, func(s match.Span) bool { return s.To+1 == text.To }))
		agree(t, "Entire"+name, a, text.Entire(a), plainEntire(text, a))
		for at := range 16 {
			if got := text.Rank(u, at); got != plainRank(text, u, at) {
				t.Fatalf("Rank%s of %d: %d", name, at, got)
			}
		}
	}
}

// calls are all calls that answer matches, of two lists; what they tell of errors is left out.
func calls() map[string]func(a, b []match.Match) []match.Match {
	first := func(m []match.Match, _ api.Errno) []match.Match { return m }
	all := match.Text{From: 0, To: 2, Sentences: []int{9}}
	return map[string]func(a, b []match.Match) []match.Match{
		"Of":       func(a, b []match.Match) []match.Match { return match.Of(a[0].In) },
		"Or":       func(a, b []match.Match) []match.Match { return first(match.Or(a, b)) },
		"Or none":  func(a, b []match.Match) []match.Match { return first(match.Or(a, nil)) },
		"And":      func(a, b []match.Match) []match.Match { return first(match.And(a, b)) },
		"And ()":   func(a, b []match.Match) []match.Match { return first(match.And(a, []match.Match{{}})) },
		"Not":      func(a, b []match.Match) []match.Match { return first(match.Not(a)) },
		"Mild":     match.Mild,
		"Ordered":  func(a, b []match.Match) []match.Match { return match.Ordered(a) },
		"Window":   func(a, b []match.Match) []match.Match { return all.Window(a, 9, api.Words) },
		"Same":     func(a, b []match.Match) []match.Match { return all.Same(a, api.Sentences) },
		"Distance": func(a, b []match.Match) []match.Match { return all.Distance(a, api.Range{Lo: -9, Hi: 9}, api.Words) },
		"Apart":    func(a, b []match.Match) []match.Match { return all.Apart(a, api.Words) },
		"First":    func(a, b []match.Match) []match.Match { return all.First(a) },
		"Last":     func(a, b []match.Match) []match.Match { return all.Last(a) },
		"Entire":   func(a, b []match.Match) []match.Match { return all.Entire(a) },
		"Times 1":  func(a, b []match.Match) []match.Match { return first(match.Times(a, api.Range{Lo: 1, Hi: len(a)})) },
		"Times 2":  func(a, b []match.Match) []match.Match { return first(match.Times(a, api.Range{Lo: 2, Hi: len(a)})) },
		"Times 13": func(a, b []match.Match) []match.Match { return first(match.Times(a, api.Range{Lo: 1, Hi: 3})) },
	}
}

// roomy is matches whose lists each have room behind them.
func roomy(a []match.Match) []match.Match {
	all := make([]match.Match, 0, len(a)+3)
	for _, m := range a {
		all = append(all, match.Match{In: append(make([]match.Span, 0, 9), m.In...), Out: append(make([]match.Span, 0, 9), m.Out...)})
	}
	return all
}

// whole is matches with what is in the room behind each list.
func whole(a []match.Match) []match.Match {
	var all []match.Match
	for _, m := range a[:cap(a)] {
		all = append(all, match.Match{In: slices.Clone(m.In[:cap(m.In)]), Out: slices.Clone(m.Out[:cap(m.Out)])})
	}
	return all
}

// TestNothingIsSharedP12 writes over all lists of an answer, and over the room behind them: what was handed in stays, and so does each other list.
func TestNothingIsSharedP12(t *testing.T) {
	shared := "0 1/1*5 !7 !0; 1/2 0 !1/2; 0 1 !0 !1/3; 1 0"
	for name, call := range calls() {
		a, b := roomy(list(t, shared)), roomy(list(t, "5-6 !5; 8"))
		stays := [2][]match.Match{whole(a), whole(b)}
		got := call(a, b)
		if len(got) == 0 {
			t.Errorf("%s answers nothing that could be shared", name)
		}
		again := copied(got)
		spoil(t, name, got)
		if !same(stays[0], whole(a)) || !same(stays[1], whole(b)) {
			t.Errorf("%s: what was handed in was changed, or is shared", name)
		}
		agree(t, name, a, call(a, b), again)
	}
}

// spoil fills each list of matches with spans of its own, and looks whether they stay.
func spoil(t *testing.T, name string, a []match.Match) {
	t.Helper()
	var lists [][]match.Span
	for _, m := range a {
		lists = append(lists, m.In[:cap(m.In)], m.Out[:cap(m.Out)])
	}
	for i, spans := range lists {
		for k := range spans {
			spans[k] = match.Span{From: -1, Part: i}
		}
	}
	for i, spans := range lists {
		for _, s := range spans {
			if s.Part != i {
				t.Errorf("%s: two lists of one answer share memory", name)
				return
			}
		}
	}
	clear(a[:cap(a)])
}

// TestWrongInputsEndP12 hands in what no layer makes.
func TestWrongInputsEndP12(t *testing.T) {
	numbers := []int{-1 << 63, -5, -1, 0, 1, 3, 1<<63 - 1}
	r := rand.New(rand.NewSource(3))
	pick := func() int { return numbers[r.Intn(len(numbers))] }
	spans := func() []match.Span {
		var all []match.Span
		for range r.Intn(4) {
			all = append(all, match.Span{From: pick(), To: pick(), Part: pick(), Weight: pick()})
		}
		return all
	}
	for range 3000 {
		var a []match.Match
		for range r.Intn(4) {
			a = append(a, match.Match{In: spans(), Out: spans()})
		}
		text := match.Text{From: pick(), To: pick(), Sentences: []int{pick(), pick()}, Paragraphs: []int{pick(), pick()}}
		kept := copied(a)
		u := api.Unit(pick())
		limits := api.Range{Lo: pick(), Hi: pick()}
		text.Window(a, pick(), u)
		text.Same(a, u)
		text.Distance(a, limits, u)
		text.Apart(a, u)
		text.First(a)
		text.Last(a)
		text.Entire(a)
		text.Rank(u, pick())
		match.Ordered(a)
		match.Mild(a, a)
		match.Not(a)
		match.And(a, a)
		match.Times(a, limits)
		if !same(a, kept) {
			t.Fatalf("%v was changed: %v", kept, a)
		}
	}
}
