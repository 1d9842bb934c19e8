package match_test

import (
	"math"
	"testing"

	"catchword/api"
	"catchword/match"
)

// text is a text of ten places: sentences begin at 3, 5 and 8, a paragraph at 5.
func text() match.Text {
	return match.Text{From: 0, To: 10, Sentences: []int{3, 5, 8}, Paragraphs: []int{5}}
}

const (
	words      = api.Words
	sentences  = api.Sentences
	paragraphs = api.Paragraphs
)

func TestRankP12(t *testing.T) {
	for _, c := range []struct {
		u        api.Unit
		at, want int
	}{
		{words, 0, 0}, {words, 7, 7}, {words, math.MaxInt, math.MaxInt},
		{sentences, 0, 0}, {sentences, 2, 0}, {sentences, 3, 1}, {sentences, 4, 1}, {sentences, 5, 2}, {sentences, 7, 2}, {sentences, 8, 3}, {sentences, math.MaxInt, 3},
		{paragraphs, 0, 0}, {paragraphs, 4, 0}, {paragraphs, 5, 1}, {paragraphs, 9, 1},
	} {
		if got := text().Rank(c.u, c.at); got != c.want {
			t.Errorf("Rank of %d in %v: %d, want %d", c.at, c.u, got, c.want)
		}
	}
	if n := (match.Text{}).Rank(sentences, 4) + (match.Text{}).Rank(paragraphs, 4); n != 0 {
		t.Error("Rank where there is one sentence and paragraph:", n)
	}
}

func TestOrderedP122(t *testing.T) {
	for _, c := range []struct{ name, a, want string }{
		{"nothing", "", ""},
		{"no spans, and one", "(); 5/3", "(); 5/3"},
		{"in order", "1/0 4/1; 1/0 4/1 9/7", "1/0 4/1; 1/0 4/1 9/7"},
		{"not in order", "4/0 1/1", ""},
		{"listed the other way round", "4/1 1/0; 1/1 4/0", "4/1 1/0"},
		{"like parts in any order", "4/2 1/2 9/2", "4/2 1/2 9/2"},
		{"equal Froms of unlike parts", "3/1 3-5/0; 3/0 3-5/1", "3/1 3-5/0; 3/0 3-5/1"},
		{"To says nothing", "1-9/0 2-3/1", "1-9/0 2-3/1"},
		{"one of many isn't", "1/0 2/1 3/2 4/0", ""},
		{"like parts on both sides of another", "1/0 3/1 1/0 3/1 3/2; 1/0 4/1 2/0 3/1 3/2", "1/0 3/1 1/0 3/1 3/2"},
		{"Out that come in order, or not", "3/1 !1/0 !4/0 !4/2 !1/2", "3/1 !1/0 !4/2"},
		{"Out of like Part, or From", "3/1 !1/1 !9/1 !3/0 !3/2", "3/1 !1/1 !9/1 !3/0 !3/2"},
		{"Out that is in order with one alone", "2/1 6/2 !4/0 !4/3 !4/1 !7/1 !1/2 !1/0 !6/3", "2/1 6/2 !4/1 !1/0 !6/3"},
		{"Out alone, which are no matter to each other", "!4/0 !1/1", "!4/0 !1/1"},
	} {
		is(t, c.name, match.Ordered(list(t, c.a)), c.want)
	}
}

func TestWindowP122(t *testing.T) {
	for _, c := range []struct {
		name, a string
		n       int
		u       api.Unit
		want    string
	}{
		{"nothing", "", 5, words, ""},
		{"no spans, 0", "()", 0, words, "()"},
		{"no spans, below 0", "()", -1, words, ""},
		{"no spans, least", "(); 1", math.MinInt, words, ""},
		{"none is 0 wide", "3; ()", 0, words, "()"},
		{"none is 0 sentences wide", "3; ()", 0, sentences, "()"},
		{"one is 1 wide", "3; 3-4", 1, words, "3"},
		{"by its To", "3-6; 3-7", 4, words, "3-6"},
		{"two", "2 6; 2 7; 6 2; 7 2", 5, words, "2 6; 6 2"},
		{"the greatest To isn't that of the last", "1-9 2; 2 4; 4-5 3", 3, words, "2 4; 4-5 3"},
		{"three", "4 1 2; 4 0 2; 5 2 3-4", 4, words, "4 1 2; 5 2 3-4"},
		{"one sentence", "3 4; 2 3; 0 2; 4 5; 8 9; 5-7; 5-8", 1, sentences, "3 4; 0 2; 8 9; 5-7"},
		{"two sentences", "2 3; 2 4; 2 5; 0 8; 5 9", 2, sentences, "2 3; 2 4; 5 9"},
		{"paragraphs", "0 4; 4 5; 5 9", 1, paragraphs, "0 4; 5 9"},
		{"two paragraphs", "0 9", 2, paragraphs, "0 9"},
		{"Out within, ahead, behind", "4 5 !3 !6 !2 !7 !4-6 !4-7 !3-5", 3, words, "4 5 !3 !6 !4-6 !3-5"},
		{"Out each by itself", "4 !2 !6 !1 !7", 3, words, "4 !2 !6"},
		{"Out of a match without In", "!2-4 !2-5 !9", 3, words, "!2-4 !9"},
		{"Out of a match without In, 0", "!2", 0, words, "()"},
		{"Out by sentences", "3 !2 !3 !4 !5", 1, sentences, "3 !3 !4"},
		{"Out by paragraphs", "3 !0 !4 !5", 1, paragraphs, "3 !0 !4"},
		{"as they are", "5/1*3 2/2*4 5/1*3 !4/0*1", 9, words, "5/1*3 2/2*4 5/1*3 !4/0*1"},
		{"the greatest n", "0 9; !3", math.MaxInt, words, "0 9; !3"},
		{"ahead of the first sentence's end, behind the last one's beginning", "0 2; 8 70", 1, sentences, "0 2; 8 70"},
	} {
		is(t, c.name, text().Window(list(t, c.a), c.n, c.u), c.want)
	}
	all := match.Of([]match.Span{{From: 0, To: math.MaxInt}})
	if got := text().Window(all, math.MaxInt, words); len(got) != 0 {
		t.Error("what is wider than any number goes into a window:", got)
	}
	all[0].In[0].From = 1
	if got := text().Window(all, math.MaxInt, words); !same(got, all) {
		t.Error("what is as wide as the greatest number doesn't go into its window")
	}
}

func TestSameP122(t *testing.T) {
	for _, c := range []struct {
		name, a string
		u       api.Unit
		want    string
	}{
		{"nothing", "", sentences, ""},
		{"no spans, and one", "(); 2; 2-3", sentences, "(); 2"},
		{"sentences", "0 2; 2 3; 4 3; 4 5; 5 7; 8 7; 8 9 8", sentences, "0 2; 4 3; 5 7; 8 9 8"},
		{"paragraphs", "0 4; 4 5; 5 9", paragraphs, "0 4; 5 9"},
		{"words", "4 4; 4 5; 4-5", words, "4 4"},
		{"Out that is there too, and that isn't", "3 !4 !5 !2 !3-5; !2-3 !1", sentences, "3 !4; !1"},
		{"Out of words", "3 !3 !4", words, "3 !3"},
		{"Out of paragraphs", "7 !5 !4 !9", paragraphs, "7 !5 !9"},
	} {
		is(t, c.name, text().Same(list(t, c.a), c.u), c.want)
	}
	if got := (match.Text{}).Same(list(t, "0 70; 5"), paragraphs); len(got) != 2 {
		t.Error("a text of one paragraph has several:", got)
	}
}

func TestDistanceP122(t *testing.T) {
	for _, c := range []struct {
		name, a string
		r       api.Range
		u       api.Unit
		want    string
	}{
		{"nothing", "", api.Range{Lo: 0, Hi: 9}, words, ""},
		{"none, and one, have no neighbours", "(); 4; !3", api.Range{Lo: 5, Hi: 4}, words, "(); 4; !3"},
		{"Lo above Hi", "4 5; 4 6", api.Range{Lo: 1, Hi: 0}, words, ""},
		{"side by side", "4 5; 4 6; 5 4", api.Range{Lo: 0, Hi: 0}, words, "4 5; 5 4"},
		{"from Lo to Hi", "2 4; 2 5; 2 7; 2 8", api.Range{Lo: 2, Hi: 4}, words, "2 5; 2 7"},
		{"from To to From", "2-4 6; 2-5 6-9; 2 6-8", api.Range{Lo: 1, Hi: 1}, words, "2-4 6"},
		{"each neighbour", "9 1 5; 9 1 4; 1 3 9", api.Range{Lo: 3, Hi: 3}, words, "9 1 5"},
		{"overlap", "2-5 4-7; 2-5 5-6", api.Range{Lo: -2, Hi: -2}, words, "2-5 4-7"},
		{"overlap is below 0", "2-5 4-7; 2 2", api.Range{Lo: 0, Hi: 9}, words, ""},
		{"the same From, by To", "3-6 3-4; 3-4 3-6", api.Range{Lo: -2, Hi: -2}, words, "3-6 3-4; 3-4 3-6"},
		{"the same From, and one behind", "3-6 3-4 9; 9 3-4 3-6", api.Range{Lo: -2, Hi: 2}, words, "3-6 3-4 9; 9 3-4 3-6"},
		{"the one ahead, though it ends first", "0-8 2-3 6", api.Range{Lo: -7, Hi: 2}, words, "0-8 2-3 6"},
		{"the one ahead, though another ends last", "0-8 2-3 6", api.Range{Lo: -7, Hi: 1}, words, ""},
		{"sentences", "2 3; 0 2; 2 5; 4 5; 2-3 5", api.Range{Lo: 1, Hi: 1}, sentences, "2 3; 4 5; 2-3 5"},
		{"the same sentence", "3 4; 4 5", api.Range{Lo: 0, Hi: 0}, sentences, "3 4"},
		{"spans that go on into the next sentence", "2-5 3; 2 8", api.Range{Lo: -1, Hi: -1}, sentences, "2-5 3"},
		{"paragraphs", "0 4; 4 5; 5 9", api.Range{Lo: 1, Hi: 5}, paragraphs, "4 5"},
		{"Out are all left", "4 6/2*3 !0 !5 !99", api.Range{Lo: 1, Hi: 1}, words, "4 6/2*3 !0 !5 !99"},
	} {
		is(t, c.name, text().Distance(list(t, c.a), c.r, c.u), c.want)
	}
}

func TestApartP122(t *testing.T) {
	for _, c := range []struct {
		name, a string
		u       api.Unit
		want    string
	}{
		{"nothing", "", words, ""},
		{"none, and one", "(); 4; 2-9", sentences, "(); 4; 2-9"},
		{"words", "3-4 5; 5 3-4; 3-4 4-5; 3-5 4; 3 3", words, "3-4 5; 5 3-4"},
		{"sentences", "2 3; 3 4; 3 2; 0 2; 2 8", sentences, "2 3; 3 2; 2 8"},
		{"ranks touch", "2-3 4; 2-3 5; 4-5 7-8", sentences, "2-3 5"},
		{"one of three", "0 3 5; 0 3 2; 8 0 3-4; 0-3 4 9", sentences, "0 3 5; 8 0 3-4"},
		{"paragraphs", "4 5; 0 4; 5 9; 0-5 9", paragraphs, "4 5"},
		{"Out are all left", "2 3 !2 !3 !0-9", sentences, "2 3 !2 !3 !0-9"},
		{"the last one ends first", "0-9 4; 4 0-9", words, ""},
	} {
		is(t, c.name, text().Apart(list(t, c.a), c.u), c.want)
	}
}

// piece is a text of some of a document's places.
func piece(from, to int) match.Text { return match.Text{From: from, To: to} }

func TestFirstP122(t *testing.T) {
	for _, c := range []struct {
		name    string
		t       match.Text
		a, want string
	}{
		{"nothing", piece(0, 10), "", ""},
		{"from 0", piece(0, 10), "0; 1; (); 0-9; 5 0; !0", "0; 0-9; 5 0"},
		{"from 3", piece(3, 10), "3-4; 2; 2-3; 4; 9 5 3", "3-4; 9 5 3"},
		{"one place", piece(3, 4), "3; 2; 4", "3"},
		{"empty", piece(3, 3), "3; 2; ()", "3"},
		{"Out are all left", piece(0, 10), "0 2/1*4 !0 !5", "0 2/1*4 !0 !5"},
	} {
		is(t, c.name, c.t.First(list(t, c.a)), c.want)
	}
}

func TestLastP122(t *testing.T) {
	for _, c := range []struct {
		name    string
		t       match.Text
		a, want string
	}{
		{"nothing", piece(0, 10), "", ""},
		{"to 10", piece(0, 10), "9; 8; 10; (); 0-9; 9 5; !9", "9; 0-9; 9 5"},
		{"by To, not by From", piece(0, 10), "9-10; 3-9", "3-9"},
		{"one place", piece(3, 4), "3; 2; 4", "3"},
		{"empty", piece(3, 3), "3; 2; ()", "2"},
		{"empty, from 0", piece(0, 0), "0; ()", ""},
		{"Out are all left", piece(0, 10), "2/1*4 9 !9 !5", "2/1*4 9 !9 !5"},
	} {
		is(t, c.name, c.t.Last(list(t, c.a)), c.want)
	}
}

func TestEntireP122(t *testing.T) {
	for _, c := range []struct {
		name    string
		t       match.Text
		a, want string
	}{
		{"nothing", piece(0, 10), "", ""},
		{"one span", piece(2, 6), "2-5; 1-6; 2-4; 3-5; (); !2-5", "2-5; 1-6"},
		{"side by side", piece(2, 6), "2-3 4-5; 4-5 2-3; 2-2 3-3 4 5", "2-3 4-5; 4-5 2-3; 2-2 3-3 4 5"},
		{"a gap", piece(2, 6), "2 4-5; 2-3 5; 5 2-3", ""},
		{"overlap", piece(2, 6), "2-4 3-5; 3-5 2-4; 2-5 3; 3-4 2-4 5", "2-4 3-5; 3-5 2-4; 2-5 3; 3-4 2-4 5"},
		{"outside", piece(2, 6), "0-1 6-9; 0-1 2-5; 0 2 3-9", "0-1 2-5; 0 2 3-9"},
		{"one place", piece(3, 4), "3; 2; 4; 2-4; 2 4; ()", "3; 2-4"},
		{"empty", piece(3, 3), "(); 8; !3", "(); 8; !3"},
		{"To below From", piece(3, 1), "(); 8", "(); 8"},
		{"Out are all left", piece(0, 2), "1/1*4 0 !0 !5", "1/1*4 0 !0 !5"},
	} {
		is(t, c.name, c.t.Entire(list(t, c.a)), c.want)
	}
	all := match.Of([]match.Span{{From: 0, To: math.MaxInt}})
	for _, to := range []int{0, 1, 70, math.MaxInt} {
		if got := piece(0, to).Entire(all); !same(got, all) {
			t.Errorf("what goes on to the greatest place isn't entire from 0 to %d", to)
		}
	}
}
