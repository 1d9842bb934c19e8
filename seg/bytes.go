package seg

import (
	"slices"

	"catchword/api"
	"catchword/dict"
	"catchword/post"
	"catchword/tree"
	"catchword/vint"
)

// none is at a place of which no word was read yet.
const none = -1

// Encode lays a segment.
func (s *Seg) Encode(b []byte) []byte {
	b = vint.Put(b, uint64(s.Len()))
	for k := range s.Len() {
		b = s.docs[k].rec.encode(b)
	}
	b = s.Dict().Encode(b)
	for _, hits := range s.where() {
		text, _ := post.Encode(hits) // these are right, as they are made in order
		b = vint.Text(b, string(text))
	}
	return b
}

// encode lays what is kept of a document.
func (r Rec) encode(b []byte) []byte {
	b = vint.Put(b, uint64(r.ID))
	b = vint.Put(b, uint64(r.Count))
	b = r.Tree.Encode(b)
	for _, starts := range [...][]int{r.Sentences, r.Paragraphs} {
		b = vint.Put(b, uint64(len(starts)))
		for _, n := range starts {
			b = vint.Put(b, uint64(n))
		}
	}
	return b
}

// where is of each word where it is.
func (s *Seg) where() [][]post.Hit {
	all := make([][]post.Hit, s.Dict().Len())
	for k := range s.Len() {
		for at, n := range s.docs[k].words {
			last := len(all[n]) - 1
			if last < 0 || all[n][last].Doc != k {
				all[n] = append(all[n], post.Hit{Doc: k})
				last++
			}
			all[n][last].At = append(all[n][last].At, at)
		}
	}
	return all
}

// Decode reads a segment.
func Decode(r *vint.Reader) (*Seg, api.Errno) {
	s := &Seg{}
	if !s.readDocs(r) || !s.readWords(r) || !s.full() {
		return nil, api.ErrForm
	}
	return s, api.OK
}

// readDocs reads all but where words are; false: there is a fault.
func (s *Seg) readDocs(r *vint.Reader) bool {
	above := -1
	for range r.Num(api.MaxDocs) {
		rec := readRec(r)
		if r.Err() != api.OK || !rec.right(above) {
			return false
		}
		above = rec.ID
		s.docs = append(s.docs, doc{rec: rec})
	}
	var e api.Errno
	s.dict, e = dict.Decode(r)
	return e == api.OK && (s.dict.Len() == 0 || s.dict.Word(0) != "")
}

// readRec reads what is kept of a document.
func readRec(r *vint.Reader) Rec {
	var rec Rec // field by field, as their order is that of the bytes
	rec.ID = r.Num(idLimit - 1)
	rec.Count = r.Num(api.MaxText)
	rec.Tree = tree.Decode(r)
	rec.Sentences = readStarts(r)
	rec.Paragraphs = readStarts(r)
	return rec
}

// readStarts reads where parts of a document begin.
func readStarts(r *vint.Reader) []int {
	var starts []int
	for range r.Num(api.MaxText) {
		n := r.Num(api.MaxText)
		if r.Err() != api.OK {
			return nil
		}
		starts = append(starts, n)
	}
	return starts
}

// readWords reads where words are; false: there is a fault.
func (s *Seg) readWords(r *vint.Reader) bool {
	// A place has a byte at least: no room is made for more places than can come.
	if s.size() > r.Left() {
		return false
	}
	for k := range s.docs {
		s.docs[k].words = slices.Repeat([]int{none}, s.docs[k].rec.Count)
	}
	for n := range s.dict.Len() {
		// No bytes, which are no hits', are what a Reader tells that can't read a text.
		hits, e := post.Decode([]byte(r.Text(r.Left())))
		if e != api.OK || !s.lay(n, hits) {
			return false
		}
	}
	return true
}

// lay lays a word where it is; false: that is nowhere, or where there is no place, or has a word.
func (s *Seg) lay(n int, hits []post.Hit) bool {
	for _, h := range hits {
		words := s.at(h.Doc).words
		for _, at := range h.At {
			if at >= len(words) || words[at] != none {
				return false
			}
			words[at] = n
		}
	}
	return len(hits) > 0
}

// full tells whether there is a word at each place.
func (s *Seg) full() bool {
	return !slices.ContainsFunc(s.docs, func(d doc) bool { return slices.Contains(d.words, none) })
}
