package plan

import (
	"strings"

	"catchword/alike"
	"catchword/api"
	"catchword/lang"
)

// maker makes the steps and parts of a question one by one, each part ahead of its Kids.
type maker struct {
	texts int // how many Words are made
}

// step makes a step, with what it has.
func (m *maker) step(s lang.Step) (Step, api.Errno) {
	if s.Name == "" || len(s.Has) > 1 {
		return Step{}, api.ErrArg
	}
	has, e := m.parts(s.Has, 0)
	if e != api.OK {
		return Step{}, e
	}
	return Step{Deep: s.Deep, Name: strings.Clone(s.Name), Has: has}, api.OK
}

// parts makes parts that are in so many others.
func (m *maker) parts(all []lang.Sel, in int) ([]Node, api.Errno) {
	var made []Node
	for _, s := range all {
		n, e := m.part(s, in)
		if e != api.OK {
			return nil, e
		}
		made = append(made, n)
	}
	return made, api.OK
}

// part makes a part that is in so many others.
func (m *maker) part(s lang.Sel, in int) (Node, api.Errno) {
	e := wrong(s, in)
	if e != api.OK {
		return Node{}, e
	}
	n := Node{Kind: s.Kind, Mode: s.Mode, N: s.N, Range: s.Range, Unit: s.Unit}
	if s.Kind == lang.Words {
		e = m.text(s, &n)
	} else {
		n.Kids, e = m.parts(s.Kids, in+1)
	}
	if e != api.OK {
		return Node{}, e
	}
	return n, api.OK
}

// text makes what Words alone have.
func (m *maker) text(s lang.Sel, n *Node) (e api.Errno) {
	if s.Mode < lang.Phrase || s.Mode > lang.All {
		return api.ErrArg
	}
	if n.Weight, e = Milli(s.Weight); e != api.OK {
		return e
	}
	n.Part = m.texts
	m.texts++
	n.Words, e = words(s)
	return e
}

// words makes the words of a text. One that is any takes up room in a phrase, and says nothing elsewhere.
func words(s lang.Sel) ([]alike.Word, api.Errno) {
	var made []alike.Word
	for _, w := range Split(s.Text, s.Opts.Wild) {
		x, e := alike.Make(w, s.Opts)
		if e != api.OK {
			return nil, e
		}
		if !x.Any || s.Mode == lang.Phrase {
			made = append(made, x)
		}
	}
	return made, api.OK
}
