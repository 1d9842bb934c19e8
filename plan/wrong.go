package plan

import (
	"slices"

	"catchword/api"
	"catchword/lang"
)

// maxIn is how many others a part may be in.
const maxIn = 200

// wrong is the first error of a part that is in so many others, but for those that Words alone have, and those of its Kids.
func wrong(s lang.Sel, in int) api.Errno {
	switch {
	case in > maxIn:
		return api.ErrDeep
	case s.Kind < lang.Words || s.Kind > lang.Entire || len(s.Kids) != kids(s.Kind):
		return api.ErrArg
	case s.Kind == lang.Mild && slices.ContainsFunc(s.Kids, unfit):
		return api.ErrType
	case s.Kind == lang.Window && !number(s.N):
		return api.ErrRange
	case (s.Kind == lang.Times || s.Kind == lang.Distance) && !between(s.Range):
		return api.ErrRange
	case s.Kind != lang.Words && (s.Unit < api.Words || s.Unit > api.Paragraphs):
		return api.ErrArg
	}
	return api.OK
}

// kids is how many Kids a part of some kind has.
func kids(k lang.Kind) int {
	switch k {
	case lang.Words:
		return 0
	case lang.Or, lang.And, lang.Mild:
		return 2
	}
	return 1
}

// unfit tells whether a part mustn't be in a Mild: it, or one in it, is Not or Times.
func unfit(s lang.Sel) bool {
	return s.Kind == lang.Not || s.Kind == lang.Times || slices.ContainsFunc(s.Kids, unfit)
}

// number tells whether a number is one that a question may have.
func number(n int) bool { return n >= 0 && n <= api.MaxNumber }

// between tells whether a range is of such numbers, and not turned about.
func between(r api.Range) bool { return number(r.Lo) && number(r.Hi) && r.Lo <= r.Hi }
