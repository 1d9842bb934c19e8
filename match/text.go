package match

import (
	"cmp"
	"slices"

	"catchword/api"
	"catchword/token"
)

// Text is a text of which is asked: its places, and where sentences and paragraphs of its document begin.
type Text struct {
	From       int
	To         int
	Sentences  []int
	Paragraphs []int
}

// Rank is in which unit a place is.
func (t Text) Rank(u api.Unit, at int) int {
	switch u {
	case api.Words:
		return at
	case api.Sentences:
		return token.Rank(t.Sentences, at)
	}
	return token.Rank(t.Paragraphs, at)
}

// through is the matches that are let through by what must be there in them.
func through(a []Match, lets func(in []Span) bool) []Match {
	var list []Match
	for _, m := range a {
		if lets(m.In) {
			list = append(list, m.cloned())
		}
	}
	return list
}

// drop takes out of matches what mustn't be there, where that is dropped beside what must be there.
func drop(list []Match, drops func(in []Span) func(out Span) bool) []Match {
	for i, m := range list {
		list[i].Out = slices.DeleteFunc(m.Out, drops(m.In))
	}
	return list
}

// Ordered is the matches that come as the question has them.
func Ordered(a []Match) []Match {
	list := through(a, func(in []Span) bool {
		// In this order no two cross, if all rise by where they begin; else two neighbours do.
		in = sorted(in, func(s, t Span) int { return cmp.Or(cmp.Compare(s.Part, t.Part), cmp.Compare(s.From, t.From)) })
		return slices.IsSortedFunc(in, func(s, t Span) int { return cmp.Compare(s.From, t.From) })
	})
	return drop(list, func(in []Span) func(out Span) bool {
		return func(out Span) bool { return slices.ContainsFunc(in, out.crosses) }
	})
}

// sorted is spans in an order, in memory of their own.
func sorted(spans []Span, by func(s, t Span) int) []Span {
	return slices.SortedFunc(slices.Values(spans), by)
}

// crosses tells whether two spans come the other way round than the question has them.
func (s Span) crosses(t Span) bool {
	return s.Part < t.Part && s.From > t.From || s.Part > t.Part && s.From < t.From
}

// Window is the matches that go into so many units.
func (t Text) Window(a []Match, n int, u api.Unit) []Match {
	fits := func(spans []Span) bool {
		if len(spans) == 0 {
			return n >= 0
		}
		all := hull(spans)
		// Less than n, as the width itself, greater by 1, might be too much for an int.
		return t.Rank(u, all.To)-t.Rank(u, all.From) < n
	}
	return drop(through(a, fits), func(in []Span) func(out Span) bool {
		if len(in) == 0 {
			return func(out Span) bool { return !fits([]Span{out}) }
		}
		all := hull(in)
		return func(out Span) bool { return !fits([]Span{all, out}) }
	})
}

// hull is from where the first of some spans begins to where the last one ends: as ranks rise with places, no rank is less, or greater.
func hull(spans []Span) Span {
	first := slices.MinFunc(spans, func(s, t Span) int { return cmp.Compare(s.From, t.From) })
	last := slices.MaxFunc(spans, func(s, t Span) int { return cmp.Compare(s.To, t.To) })
	return Span{From: first.From, To: last.To}
}

// Distance is the matches between whose neighbours there are so many units.
func (t Text) Distance(a []Match, r api.Range, u api.Unit) []Match {
	return through(a, func(in []Span) bool {
		return neighbours(in, func(ahead, s Span) bool {
			between := t.Rank(u, s.From) - t.Rank(u, ahead.To)
			if u == api.Words {
				between--
			}
			return r.Has(between)
		})
	})
}

// neighbours tells whether something holds of each two spans that follow each other.
func neighbours(spans []Span, holds func(ahead, s Span) bool) bool {
	spans = sorted(spans, byPlace)
	for i := 1; i < len(spans); i++ {
		if !holds(spans[i-1], spans[i]) {
			return false
		}
	}
	return true
}

// byPlace is the order of spans by where they begin, and then by where they end.
func byPlace(s, t Span) int {
	return cmp.Or(cmp.Compare(s.From, t.From), cmp.Compare(s.To, t.To))
}

// Same is the matches in one unit.
func (t Text) Same(a []Match, u api.Unit) []Match { return t.Window(a, 1, u) }

// Apart is the matches of which no two are in one unit.
func (t Text) Apart(a []Match, u api.Unit) []Match {
	return through(a, func(in []Span) bool {
		return neighbours(in, func(ahead, s Span) bool { return t.Rank(u, ahead.To) < t.Rank(u, s.From) })
	})
}

// First is the matches that begin with the text, Last those that end with it, Entire those that are all of it.
func (t Text) First(a []Match) []Match {
	return through(a, func(in []Span) bool {
		return slices.ContainsFunc(in, func(s Span) bool { return s.From == t.From })
	})
}

// Last is the matches that end with the text.
func (t Text) Last(a []Match) []Match {
	return through(a, func(in []Span) bool {
		return slices.ContainsFunc(in, func(s Span) bool { return s.To == t.To-1 })
	})
}

// Entire is the matches that are all of the text.
func (t Text) Entire(a []Match) []Match {
	return through(a, func(in []Span) bool {
		bare := t.From // the first place that isn't in a span so far
		for _, s := range sorted(in, byPlace) {
			if s.From > bare {
				break
			}
			bare = max(bare, min(s.To, t.To-1)+1)
		}
		return bare >= t.To
	})
}
