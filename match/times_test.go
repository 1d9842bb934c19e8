package match_test

import (
	"fmt"
	"math"
	"testing"

	"catchword/api"
	"catchword/match"
)

func TestTimesP123(t *testing.T) {
	for _, c := range []struct {
		name, a string
		lo, hi  int
		want    string
	}{
		{"none of none", "", 0, 0, "()"},
		{"one of none", "", 1, 9, ""},
		{"at least 0", "1; 2", 0, 2, "()"},
		{"at least below 0", "1; 2", -7, 5, "()"},
		{"at least the least number", "1; 2", math.MinInt, math.MaxInt, "()"},
		{"at least 1", "5/1*2 !3; 2", 1, 2, "5/1*2 !3; 2"},
		{"at least 2", "5; 2 !1; 9 8 !7 !6", 2, 3, "5 2 !1; 5 9 8 !7 !6; 2 9 8 !1 !7 !6"},
		{"at least 2 of 4", "4; 3; 2; 1", 2, 4, "4 3; 4 2; 4 1; 3 2; 3 1; 2 1"},
		{"at least 3 of 5", "1; 2; 3; 4; 5", 3, 5, "1 2 3; 1 2 4; 1 2 5; 1 3 4; 1 3 5; 1 4 5; 2 3 4; 2 3 5; 2 4 5; 3 4 5"},
		{"all", "4; 3 !9; 2", 3, 3, "4 3 2 !9"},
		{"more than there are", "4; 3; 2", 4, 9, ""},
		{"more than there are, and no number is", "4; 3; 2", math.MaxInt, math.MaxInt, ""},
		{"at most 0", "4; 3", 0, 0, "!4 !3"},
		{"at most 0 of two that have several", "1 2; 3 !4", 0, 0, "!1 !3; 4 !1; !2 !3; 4 !2"},
		{"at most 1", "4; 3", 0, 1, "!4; !3"},
		{"at most 1 of 3", "1; 2; 3", 0, 1, "!1 !1 !2; !1 !1 !3; !1 !3 !2; !1 !3 !3; !2 !1 !2; !2 !1 !3; !2 !3 !2; !2 !3 !3"},
		{"exactly 1", "4; 3", 1, 1, "4 !4; 4 !3; 3 !4; 3 !3"},
		{"exactly 1, with Out", "4 !5; 3", 1, 1, "4 !5 !4; 4 !5 !3; 4 5 !5; 3 !4; 3 !3; 3 5"},
		{"Hi at how many there are", "4; 3", 1, 2, "4; 3"},
		{"Hi one below how many there are", "4; 3", 2, 1, "4 3 !4; 4 3 !3"},
		{"Hi below Lo, which is more than there are", "4; 3", 3, 1, ""},
		{"Hi below 0", "4; 3", 0, -1, ""},
		{"Hi and Lo below 0", "4; 3", -5, -5, ""},
		{"Hi the least number", "", 0, math.MinInt, ""},
		{"matches that have nothing", "(); ()", 1, 2, "(); ()"},
		{"matches that have nothing, at most 1", "(); ()", 0, 1, ""},
	} {
		got, e := match.Times(list(t, c.a), api.Range{Lo: c.lo, Hi: c.hi})
		isSo(t, c.name, got, e, c.want)
	}
}

func TestTimesOfManyP123(t *testing.T) {
	for _, c := range []struct {
		matches, lo, hi int
		want            int
	}{
		{400, 1, 400, 400},
		{401, 1, 401, 401},
		{400, 399, 400, 400},
		{401, 400, 401, 401},
		{28, 2, 28, 378},
		{29, 2, 29, 406},
		{28, 26, 28, 378},
		{29, 27, 29, 406},
		{14, 3, 14, 364},
		{15, 3, 15, 455},
		{11, 5, 11, 462},
		{100, 50, 100, 401},
		{30000, 30000, 30000, 1},
		{30000, 29999, 30000, 401},
		{30000, 30001, 30002, 0},
		{30000, 0, 30000, 1},
		{30000, 15000, 30000, 401},
		{30, 2, 29, 435}, // too many are enough, though there are few of one more
		// What mustn't be: all ways to choose one more, and of each of these ways one span.
		{400, 0, 0, 1},
		{401, 0, 0, 401},
		{9, 0, 8, 9},
		{400, 0, 399, 400},
		{401, 0, 400, 401},
		{29, 0, 1, 406},
		{8, 0, 1, 401},  // 2 spans in each of 28
		{4, 0, 2, 81},   // 3 spans in each of 4
		{4, 1, 2, 324},  // 81 with each of 4
		{4, 2, 2, 486},  // 81 with each of 6
		{5, 0, 3, 1024}, // 4 spans in each of 5
		{20, 1, 19, 400},
		{21, 1, 20, 441},
		{21, 22, 20, 0},
		{401, 402, 0, 401}, // none is enough, but there are too many of one more
		{401, 1, -1, 0},    // none, whatever else
	} {
		got, e := match.Times(many(c.matches), api.Range{Lo: c.lo, Hi: c.hi})
		hasMany(t, fmt.Sprintf("Times of %d matches, %d to %d", c.matches, c.lo, c.hi), got, e, c.want)
	}
}

// TestTimesHoldsP123 asks of words that are there so many times.
func TestTimesHoldsP123(t *testing.T) {
	for n := range 6 {
		for lo := -1; lo <= 7; lo++ {
			for hi := -1; hi <= 7; hi++ {
				got, e := match.Times(many(n), api.Range{Lo: lo, Hi: hi})
				if e == api.OK && match.Holds(got) != (lo <= n && n <= hi) {
					t.Errorf("%d matches, %d to %d: holds %v", n, lo, hi, match.Holds(got))
				}
			}
		}
	}
}
