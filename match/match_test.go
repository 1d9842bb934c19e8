package match_test

import (
	"math"
	"slices"
	"strconv"
	"strings"
	"testing"

	"catchword/api"
	"catchword/match"
)

// list is matches by a short text: 2-5/1*7 is a span from place 2 to 5 of part 1 that weighs 7 (2 alone: from 2 to 2, 0 else); with ! ahead it mustn't be there. A ; is between matches, and () has nothing.
func list(t *testing.T, text string) []match.Match {
	t.Helper()
	var all []match.Match
	for _, part := range strings.FieldsFunc(text, func(r rune) bool { return r == ';' }) {
		var m match.Match
		for _, word := range strings.Fields(part) {
			word, out := strings.CutPrefix(word, "!")
			switch {
			case word == "()":
			case out:
				m.Out = append(m.Out, span(t, word))
			default:
				m.In = append(m.In, span(t, word))
			}
		}
		all = append(all, m)
	}
	return all
}

// span is a span by a short text.
func span(t *testing.T, word string) match.Span {
	t.Helper()
	word, weight, _ := strings.Cut(word, "*")
	word, part, _ := strings.Cut(word, "/")
	from, to, long := strings.Cut(word, "-")
	s := match.Span{From: number(t, from), To: number(t, from), Part: number(t, part), Weight: number(t, weight)}
	if long {
		s.To = number(t, to)
	}
	return s
}

// number is a number by its digits, or by none.
func number(t *testing.T, digits string) int {
	t.Helper()
	if digits == "" {
		return 0
	}
	n, err := strconv.Atoi(digits)
	if err != nil {
		t.Fatal(err)
	}
	return n
}

// same tells whether matches are the same, where no spans may be nil or empty.
func same(a, b []match.Match) bool {
	return slices.EqualFunc(a, b, func(x, y match.Match) bool {
		return slices.Equal(x.In, y.In) && slices.Equal(x.Out, y.Out)
	})
}

// is checks what was answered.
func is(t *testing.T, name string, got []match.Match, want string) {
	t.Helper()
	if !same(got, list(t, want)) {
		t.Errorf("%s: got %v, want %s", name, got, want)
	}
}

// isSo checks what was answered, and that there was no error.
func isSo(t *testing.T, name string, got []match.Match, e api.Errno, want string) {
	t.Helper()
	if e != api.OK {
		t.Errorf("%s: error %v", name, e)
	}
	is(t, name, got, want)
}

// hasMany checks how many matches were answered, or that it was ErrMatch beside none, if these would be more than may be.
func hasMany(t *testing.T, name string, got []match.Match, e api.Errno, want int) {
	t.Helper()
	switch {
	case want > api.MaxMatches && (e != api.ErrMatch || len(got) != 0):
		t.Errorf("%s: got %d and error %v, want ErrMatch alone", name, len(got), e)
	case want <= api.MaxMatches && (e != api.OK || len(got) != want):
		t.Errorf("%s: got %d and error %v, want %d", name, len(got), e, want)
	}
}

// row is so many spans one behind the other.
func row(size int) []match.Span {
	var spans []match.Span
	for i := range size {
		spans = append(spans, match.Span{From: i, To: i})
	}
	return spans
}

// many is so many matches with one span each.
func many(size int) []match.Match { return match.Of(row(size)) }

// wide is one match of so many spans that must be there, and so many that mustn't.
func wide(in, out int) match.Match { return match.Match{In: row(in), Out: row(out)} }

func TestOfP121(t *testing.T) {
	for _, text := range []string{"", "3", "2-5/1*7", "4; 1-9/3*1000; 4; 4/2; 0*5"} {
		var spans []match.Span
		for _, m := range list(t, text) {
			spans = append(spans, m.In...)
		}
		is(t, "Of "+text, match.Of(spans), text)
	}
	if got := match.Of(row(1000)); len(got) != 1000 || !slices.Equal(got[999].In, []match.Span{{From: 999, To: 999}}) {
		t.Errorf("Of 1000 spans has %d", len(got))
	}
}

func TestHoldsP12(t *testing.T) {
	for text, want := range map[string]bool{
		"":             false,
		"()":           true,
		"1":            true,
		"!1":           false,
		"1 !2":         false,
		"1 !2; !3":     false,
		"!1; 2":        true,
		"2; !1":        true,
		"!1; (); !2 3": true,
		"!1; 4 5; !2":  true,
	} {
		if got := match.Holds(list(t, text)); got != want {
			t.Errorf("Holds %s: %v", text, got)
		}
	}
}

func TestOrP121(t *testing.T) {
	for _, c := range []struct{ a, b, want string }{
		{"", "", ""},
		{"1", "", "1"},
		{"", "1", "1"},
		{"()", "", "()"},
		{"()", "()", "(); ()"},
		{"5/1*3; 2 !7", "1 4; !0; 5/1*3", "5/1*3; 2 !7; 1 4; !0; 5/1*3"},
	} {
		got, e := match.Or(list(t, c.a), list(t, c.b))
		isSo(t, c.a+" or "+c.b, got, e, c.want)
	}
}

func TestOrOfManyP121(t *testing.T) {
	for _, c := range [][2]int{{400, 0}, {0, 400}, {399, 1}, {200, 200}, {401, 0}, {0, 401}, {400, 1}, {1, 400}, {201, 200}, {5000, 5000}} {
		got, e := match.Or(many(c[0]), many(c[1]))
		hasMany(t, "Or", got, e, c[0]+c[1])
	}
}

func TestAndP121(t *testing.T) {
	for _, c := range []struct{ a, b, want string }{
		{"", "", ""},
		{"1; 2", "", ""},
		{"", "1; 2", ""},
		{"()", "()", "()"},
		{"()", "1 !2; 3", "1 !2; 3"},
		{"1 !2; 3", "()", "1 !2; 3"},
		{"9", "1", "9 1"},
		{"5*1; 2/1", "3-4; 1; 0/2", "5*1 3-4; 5*1 1; 5*1 0/2; 2/1 3-4; 2/1 1; 2/1 0/2"},
		{"1 2 !3 !4; !9", "5 !6 !7; 8", "1 2 5 !3 !4 !6 !7; 1 2 8 !3 !4; 5 !9 !6 !7; 8 !9"},
		{"1", "1", "1 1"},
	} {
		got, e := match.And(list(t, c.a), list(t, c.b))
		isSo(t, c.a+" and "+c.b, got, e, c.want)
	}
}

func TestAndOfManyP121(t *testing.T) {
	for _, c := range [][2]int{{400, 1}, {1, 400}, {20, 20}, {200, 2}, {133, 3}, {3, 133}, {401, 1}, {1, 401}, {20, 21}, {21, 20}, {134, 3}, {3, 134}, {201, 2}, {401, 0}, {0, 401}, {70000, 70000}} {
		got, e := match.And(many(c[0]), many(c[1]))
		hasMany(t, "And", got, e, c[0]*c[1])
	}
}

func TestNotP121(t *testing.T) {
	for _, c := range []struct{ a, want string }{
		{"", "()"},
		{"()", ""},
		{"(); 1", ""},
		{"1; ()", ""},
		{"2-5/1*7", "!2-5/1*7"},
		{"!2-5/1*7", "2-5/1*7"},
		{"1; 2", "!1 !2"},
		{"1 2", "!1; !2"},
		{"2 1 !4 !3", "!2; !1; 4; 3"},
		{"1 2; 3 4", "!1 !3; !1 !4; !2 !3; !2 !4"},
		{"1 !2; 3 !4", "!1 !3; 4 !1; 2 !3; 2 4"},
		{"1 2; 3; !4 !5 6", "!1 !3 !6; 4 !1 !3; 5 !1 !3; !2 !3 !6; 4 !2 !3; 5 !2 !3"},
		{"!1; !2; !3", "1 2 3"},
	} {
		got, e := match.Not(list(t, c.a))
		isSo(t, "not "+c.a, got, e, c.want)
	}
}

func TestNotOfManyP121(t *testing.T) {
	for _, c := range []struct {
		name string
		a    []match.Match
		want int
	}{
		{"400 in the first one", []match.Match{wide(400, 0)}, 400},
		{"401 in the first one", []match.Match{wide(401, 0)}, 401},
		{"400 of both kinds", []match.Match{wide(1, 399)}, 400},
		{"401 of both kinds", []match.Match{wide(1, 400)}, 401},
		{"400 of the second one", []match.Match{wide(1, 0), wide(400, 0)}, 400},
		{"401 of the second one", []match.Match{wide(0, 1), wide(200, 201)}, 401},
		{"400 behind the second one", []match.Match{wide(20, 0), wide(10, 10)}, 400},
		{"420 behind the second one", []match.Match{wide(20, 0), wide(10, 11)}, 420},
		{"420 behind the second one, the first greater", []match.Match{wide(21, 0), wide(0, 20)}, 420},
		{"402 behind the third one", []match.Match{wide(3, 0), wide(1, 0), wide(67, 67)}, 402},
		{"400 behind the third one", []match.Match{wide(4, 0), wide(1, 0), wide(50, 50)}, 400},
		{"400, and one of one span behind", []match.Match{wide(0, 400), wide(0, 1), wide(1, 0)}, 400},
		{"401, and none at last", []match.Match{wide(401, 0), wide(0, 0)}, 401},
		{"402, and none at last", []match.Match{wide(67, 0), wide(3, 3), wide(0, 0)}, 402},
		{"none ahead of 401", []match.Match{wide(0, 0), wide(401, 0)}, 0},
		{"400, and none at last", []match.Match{wide(400, 0), wide(0, 0)}, 0},
		{"many of one span", many(20000), 1},
	} {
		got, e := match.Not(c.a)
		hasMany(t, "Not: "+c.name, got, e, c.want)
	}
	if got, _ := match.Not(many(20000)); len(got) != 1 || len(got[0].In) != 0 || !slices.Equal(got[0].Out, row(20000)) {
		t.Error("Not of many matches with one span each isn't one that has them all as Out")
	}
}

func TestMildP121(t *testing.T) {
	for _, c := range []struct{ name, a, b, want string }{
		{"of nothing", "", "1", ""},
		{"not in nothing", "1; !2; ()", "", "1; !2; ()"},
		{"in a match that has nothing", "1; 2 !3", "()", "1; 2 !3"},
		{"has nothing", "()", "0-9", "()"},
		{"the same", "3-5/1*2", "3-5", ""},
		{"just within, at the beginning", "3-4", "3-5", ""},
		{"just within, at the end", "4-5", "3-5", ""},
		{"begins ahead of it", "2-5", "3-5", "2-5"},
		{"ends behind it", "3-6", "3-5", "3-6"},
		{"around it", "2-6", "3-5", "2-6"},
		{"ahead of it, behind it", "1-2; 6-7", "3-5", "1-2; 6-7"},
		{"one of several is in it", "1 4 9; 1 9", "3-5", "1 9"},
		{"the other has several", "1; 2; 5; 8; 9", "8 0-1; 5", "2; 9"},
		{"the other's begin alike, the longer one first or last", "3-5; 3-7; 3-8", "3-7 3-4; 3-5", "3-8"},
		{"a long one begins far ahead", "6-7; 6-10", "0-9 5-6; 7", "6-10"},
		{"what mustn't be there counts for neither", "1 !4; 4 !1", "!1 4 !0-9", "1 !4"},
		{"is left as it is", "7 2/1*3 !1 !0; 7", "6", "7 2/1*3 !1 !0; 7"},
	} {
		is(t, c.name, match.Mild(list(t, c.a), list(t, c.b)), c.want)
	}
	ends := match.Of([]match.Span{{From: 0, To: math.MaxInt}, {From: math.MaxInt, To: math.MaxInt}})
	if got := match.Mild(ends, ends[1:]); !same(got, ends[:1]) {
		t.Error("Mild of the greatest places:", got)
	}
}

// lists are matches of many shapes: none, that hold, and that don't.
var lists = []string{"", "()", "1", "!1", "1 !2", "1 2 !3 !4", "1; 2", "!1; !2", "!1; 2", "2; !1 3", "!1 !2; 4 !3; !5", "(); !1", "1 2; 3 !4; 5"}

func TestHoldsByPartsP124(t *testing.T) {
	for _, x := range lists {
		a := list(t, x)
		if got, e := match.Not(a); e != api.OK || match.Holds(got) == match.Holds(a) {
			t.Errorf("not %s: error %v, holds %v", x, e, match.Holds(got))
		}
		for _, y := range lists {
			b := list(t, y)
			if got, e := match.Or(a, b); e != api.OK || match.Holds(got) != (match.Holds(a) || match.Holds(b)) {
				t.Errorf("%s or %s: error %v, holds %v", x, y, e, match.Holds(got))
			}
			if got, e := match.And(a, b); e != api.OK || match.Holds(got) != (match.Holds(a) && match.Holds(b)) {
				t.Errorf("%s and %s: error %v, holds %v", x, y, e, match.Holds(got))
			}
		}
	}
}
