package match

import (
	"slices"

	"catchword/api"
)

// Times is the matches of so many at once, and of no more.
func Times(a []Match, r api.Range) ([]Match, api.Errno) {
	if r.Hi < 0 {
		return nil, api.OK
	}
	enough, e := some(a, r.Lo)
	if e != api.OK || r.Hi >= len(a) {
		return enough, e
	}
	more, e := some(a, r.Hi+1)
	if e != api.OK {
		return nil, e
	}
	no, e := Not(more)
	if e != api.OK {
		return nil, e
	}
	return And(enough, no)
}

// some is a match for each choice of so many.
func some(a []Match, n int) ([]Match, api.Errno) {
	n = max(n, 0)
	if n > len(a) {
		return nil, api.OK
	}
	if !few(len(a), n) {
		return nil, api.ErrMatch
	}
	var list []Match
	choice := make([]int, n)
	for i := range choice {
		choice[i] = i
	}
	for more := true; more; more = next(choice, len(a)) {
		list = append(list, chosen(a, choice))
	}
	return list, api.OK
}

// few tells whether there are no more ways than may be to choose n out of so many, which aren't fewer.
func few(of, n int) bool {
	ways := 1
	for k := 1; k <= n; k++ { // ways to choose the first k, and others behind: these never become fewer
		ways = ways * (of - n + k) / k
		if ways > api.MaxMatches {
			return false
		}
	}
	return true
}

// next turns a choice out of so many into the one behind it; false: there is none.
func next(choice []int, of int) bool {
	for i, at := range slices.Backward(choice) {
		if at+len(choice)-i == of { // none can be chosen further behind
			continue
		}
		for k := range choice[i:] {
			choice[i+k] = at + 1 + k
		}
		return true
	}
	return false
}

// chosen is one match of all that are chosen.
func chosen(a []Match, choice []int) Match {
	var all Match
	for _, i := range choice {
		all.In = append(all.In, a[i].In...)
		all.Out = append(all.Out, a[i].Out...)
	}
	return all
}
