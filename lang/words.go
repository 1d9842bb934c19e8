package lang

// called has the words of each kind of part, by kinds.
var called = [...]string{
	Or:       "ftor",
	And:      "ftand",
	Mild:     "not in",
	Not:      "ftnot",
	Times:    "occurs",
	Ordered:  "ordered",
	Window:   "window",
	Distance: "distance",
	Same:     "same",
	Apart:    "different",
	First:    "at start",
	Last:     "at end",
	Entire:   "entire content",
}

// modes has the words of each mode, by modes.
var modes = [...]string{Phrase: "phrase", Any: "any word", All: "all words"}

// units has what is counted, by units.
var units = [...]string{"word", "sentence", "paragraph"}

// options has the words of each option that is on, in the order in which they are told.
var options = [...]string{"case sensitive", "diacritics sensitive", "stemming", "stop words", "wildcards"}
