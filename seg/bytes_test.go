package seg_test

import (
	"bytes"
	"math"
	"math/rand"
	"runtime"
	"slices"
	"testing"

	"catchword/alike"
	"catchword/api"
	"catchword/dict"
	"catchword/post"
	"catchword/seg"
	"catchword/token"
	"catchword/tree"
	"catchword/vint"
)

// parts is what a segment's bytes are made of, each by itself, so that each may be wrong.
type parts struct {
	docs  []seg.Rec
	words []string
	hits  [][]byte
}

// partsOf is the parts of documents' bytes, by the plainest means.
func partsOf(t *testing.T, list []seg.Source) parts {
	t.Helper()
	var p parts
	for _, src := range copied(list) {
		p.docs = append(p.docs, ofSource(src))
	}
	p.words = vocabulary(list)
	for _, w := range p.words {
		var hits []post.Hit
		for k, src := range list {
			var at []int
			for place, v := range src.Doc.Words {
				if v == w {
					at = append(at, place)
				}
			}
			if len(at) > 0 {
				hits = append(hits, post.Hit{Doc: k, At: at})
			}
		}
		p.hits = append(p.hits, laidHits(t, hits...))
	}
	return p
}

func laidHits(t *testing.T, hits ...post.Hit) []byte {
	t.Helper()
	b, e := post.Encode(hits)
	if e != api.OK {
		t.Fatalf("Encode of %v: %v", hits, e)
	}
	return b
}

// laid is the parts as bytes.
func (p parts) laid() []byte {
	b := vint.Put(nil, uint64(len(p.docs)))
	for _, d := range p.docs {
		b = vint.Put(b, uint64(d.ID))
		b = vint.Put(b, uint64(d.Count))
		b = d.Tree.Encode(b)
		b = laidNumbers(b, d.Sentences)
		b = laidNumbers(b, d.Paragraphs)
	}
	b = vint.Put(b, uint64(len(p.words)))
	ahead := ""
	for _, w := range p.words {
		same := 0
		for same < min(len(w), len(ahead)) && w[same] == ahead[same] {
			same++
		}
		b = vint.Text(vint.Put(b, uint64(same)), w[same:])
		ahead = w
	}
	for _, hits := range p.hits {
		b = vint.Text(b, string(hits))
	}
	return b
}

func laidNumbers(b []byte, list []int) []byte {
	b = vint.Put(b, uint64(len(list)))
	for _, n := range list {
		b = vint.Put(b, uint64(n))
	}
	return b
}

func TestEncodeP113(t *testing.T) {
	one := []seg.Source{parsed(t, 300, "<a>x y. x</a>")}
	want := []byte{
		1, 0x82, 0x2c, 3, // one document, of number 300, with three words
		1, 1, 'a', 0, 0, 1, 0, 3, // one element
		1, 2, 0, // a sentence behind two words, no paragraph
		2, 0, 1, 'x', 0, 1, 'y', // two words
		7, 1, 0, 4, 0, 2, 0, 2, // x in document 0, at 0 and 2
		6, 1, 0, 3, 0, 1, 1, // y at 1
	}
	if got := built(t, one).Encode(nil); !bytes.Equal(got, want) {
		t.Errorf("Encode: %x, not %x", got, want)
	}
	for name, list := range map[string][]seg.Source{
		"none":        nil,
		"one":         one,
		"three":       three(t),
		"no words":    {flat(1<<30 - 1)},
		"1000":        many(1000),
		"65536 words": {flat(5, "y", "x"), flat(6, slices.Repeat([]string{"x"}, api.MaxText)...)},
		"any words":   {flat(3, "b", "\xff", " ", "\x00", "a b", "B", "b")},
	} {
		s := built(t, list)
		want := partsOf(t, list).laid()
		if got := s.Encode(nil); !bytes.Equal(got, want) {
			t.Errorf("%s: Encode: %x, not %x", name, got, want)
		}
		ahead := []byte("ahead\x80")
		if got := s.Encode(slices.Clone(ahead)); !bytes.Equal(got, slices.Concat(ahead, want)) {
			t.Errorf("%s: Encode behind others: %x", name, got)
		}
		r := vint.Read(slices.Concat(want, ahead))
		u, e := seg.Decode(r)
		if e != api.OK || r.Err() != api.OK || r.Left() != len(ahead) {
			t.Fatalf("%s: Decode: %v, %v, %d left", name, e, r.Err(), r.Left())
		}
		has(t, u, list)
		if got := u.Encode(nil); !bytes.Equal(got, want) {
			t.Errorf("%s: Encode of what was read: %x", name, got)
		}
	}
}

func TestEncodeHasRoomBehindP113(t *testing.T) {
	s := built(t, three(t))
	room := make([]byte, 2, 4000)
	b, c := s.Encode(room), s.Encode(nil)
	if !bytes.Equal(b[2:], c) || len(room) != 2 || !bytes.Equal(room, []byte{0, 0}) {
		t.Errorf("%x behind %x", b, room)
	}
	clear(c)
	has(t, s, three(t))
}

func TestSeveralSegmentsP113(t *testing.T) {
	first, second := three(t), []seg.Source{flat(0, "y"), flat(2, "x", "y")}
	r := vint.Read(built(t, second).Encode(built(t, first).Encode(nil)))
	for _, list := range [][]seg.Source{first, second} {
		s, e := seg.Decode(r)
		if e != api.OK {
			t.Fatal(e)
		}
		has(t, s, list)
	}
	if r.End() != api.OK {
		t.Error(r.Left(), "are left")
	}
}

func refused(t *testing.T, name string, b []byte) {
	t.Helper()
	if s, e := seg.Decode(vint.Read(b)); e != api.ErrForm || s != nil {
		t.Errorf("%s: %v, %v", name, s, e)
	}
}

func TestDecodeOfBytesCutOffP113(t *testing.T) {
	b := built(t, three(t)).Encode(nil)
	for i := range b {
		refused(t, "cut off", b[:i])
	}
}

func TestDecodeBehindAnErrorP113(t *testing.T) {
	r := vint.Read(slices.Concat([]byte{9}, built(t, three(t)).Encode(nil)))
	r.Num(8)
	if s, e := seg.Decode(r); e != api.ErrForm || s != nil || r.Err() != api.ErrForm {
		t.Error(s, e)
	}
	for _, r := range []*vint.Reader{nil, vint.Read(nil)} {
		if s, e := seg.Decode(r); e != api.ErrForm || s != nil {
			t.Error(s, e)
		}
	}
}

func TestDecodeKeepsNothingP113(t *testing.T) {
	b := built(t, three(t)).Encode(nil)
	s, e := seg.Decode(vint.Read(b))
	clear(b)
	if e != api.OK {
		t.Fatal(e)
	}
	has(t, s, three(t))
}

// wrongParts are changes of three documents, with the words a, b, c, of a b a c, of none, and of c c: each makes one fault.
func wrongParts(t *testing.T) map[string]func(p *parts) {
	at := func(doc int, places ...int) post.Hit { return post.Hit{Doc: doc, At: places} }
	hits := func(word int, hits ...post.Hit) func(p *parts) {
		return func(p *parts) { p.hits[word] = laidHits(t, hits...) }
	}
	raw := func(word int, b ...byte) func(p *parts) { return func(p *parts) { p.hits[word] = b } }
	rec := func(doc int, change func(r *seg.Rec)) func(p *parts) { return func(p *parts) { change(&p.docs[doc]) } }
	elem := func(doc int, change func(e *tree.Elem)) func(p *parts) {
		return func(p *parts) { change(&p.docs[doc].Tree.Elems[0]) }
	}
	return map[string]func(p *parts){
		"number twice":       rec(1, func(r *seg.Rec) { r.ID = 3 }),
		"number falls":       rec(1, func(r *seg.Rec) { r.ID = 2 }),
		"number 2^30":        rec(2, func(r *seg.Rec) { r.ID = 1 << 30 }),
		"number far above":   rec(2, func(r *seg.Rec) { r.ID = math.MaxInt }),
		"count above":        rec(0, func(r *seg.Rec) { r.Count, r.Tree.Elems[0].To = 5, 5 }), // no word is at the last place
		"count below":        rec(0, func(r *seg.Rec) { r.Count, r.Tree.Elems[0].To = 3, 3 }), // a word is behind the last place
		"count other":        rec(2, func(r *seg.Rec) { r.Count = 3 }),
		"count 65537":        rec(0, func(r *seg.Rec) { r.Count = api.MaxText + 1 }),
		"count above all":    rec(0, func(r *seg.Rec) { r.Count, r.Tree.Elems[0].To = api.MaxText, api.MaxText }),
		"count of nothing":   rec(1, func(r *seg.Rec) { r.Count, r.Tree.Elems[0].To = 1, 1 }),
		"no elements":        rec(1, func(r *seg.Rec) { r.Tree = tree.Tree{} }),
		"tree of fewer":      elem(0, func(e *tree.Elem) { e.To = 3 }),
		"tree of more":       elem(0, func(e *tree.Elem) { e.To = 5 }),
		"tree of 65537":      elem(0, func(e *tree.Elem) { e.To = api.MaxText + 1 }),
		"tree without name":  elem(2, func(e *tree.Elem) { e.Name = "" }),
		"tree with parent":   elem(2, func(e *tree.Elem) { e.Parent = 0 }),
		"tree's level":       elem(2, func(e *tree.Elem) { e.Level = 1 }),
		"tree's end":         elem(2, func(e *tree.Elem) { e.End = 2 }),
		"sentence at 0":      rec(0, func(r *seg.Rec) { r.Sentences = []int{0, 2} }),
		"sentence at end":    rec(0, func(r *seg.Rec) { r.Sentences = []int{4} }),
		"sentence twice":     rec(0, func(r *seg.Rec) { r.Sentences = []int{2, 2} }),
		"sentence falls":     rec(0, func(r *seg.Rec) { r.Sentences = []int{2, 1} }),
		"sentence 65537":     rec(0, func(r *seg.Rec) { r.Sentences = []int{2, api.MaxText + 1} }),
		"sentence of none":   rec(1, func(r *seg.Rec) { r.Sentences = []int{1} }),
		"paragraph at 0":     rec(0, func(r *seg.Rec) { r.Paragraphs = []int{0, 2} }),
		"paragraph at end":   rec(0, func(r *seg.Rec) { r.Paragraphs = []int{3, 4} }),
		"paragraph twice":    rec(0, func(r *seg.Rec) { r.Paragraphs = []int{1, 2, 2} }),
		"paragraph falls":    rec(0, func(r *seg.Rec) { r.Paragraphs = []int{3, 1} }),
		"empty word":         func(p *parts) { p.words[0] = "" },
		"words fall":         func(p *parts) { p.words[0] = "d" },
		"word twice":         func(p *parts) { p.words[1] = "a" },
		"word of none":       func(p *parts) { p.words, p.hits = append(p.words, "d"), append(p.hits, []byte{0}) },
		"first word of none": func(p *parts) { p.words, p.hits = append([]string{"A"}, p.words...), append([][]byte{{0}}, p.hits...) },
		"word of no bytes":   func(p *parts) { p.words, p.hits = append(p.words, "d"), append(p.hits, nil) },
		"hits of no word":    func(p *parts) { p.words = p.words[:2] },
		"no hits of words":   func(p *parts) { p.hits = p.hits[:2] },
		"place twice":        hits(1, at(0, 1, 2)),             // 2 is a's, ahead of it
		"place twice later":  hits(0, at(0, 0, 1, 2)),          // 1 is b's, behind it
		"place of none":      hits(0, at(0, 0)),                // none is at 2
		"place of no word":   hits(2, at(0, 3), at(2, 0)),      // none is at 1 of the last document
		"place behind all":   hits(1, at(0, 1, 4)),             // there are four
		"place far behind":   hits(1, at(0, 1, 65535)),         //
		"place of no words":  hits(2, at(0, 3), at(1, 0)),      // the document has none
		"document of none":   hits(2, at(0, 3), at(3, 0, 1)),   // there are three
		"document far above": hits(2, at(0, 3), at(999, 0, 1)), //
		"all of one word":    hits(0, at(0, 0, 1, 2, 3), at(2, 0, 1)),
		"word nowhere":       hits(1),
		"hits cut off":       raw(0, 1, 0, 4, 0, 2, 0),
		"hits and more":      raw(0, 1, 0, 4, 0, 2, 0, 2, 0),
		"hits in other form": raw(0, 1, 0, 5, 0, 0x80, 2, 0, 2),
		"hits of size":       raw(0, 1, 0, 5, 0, 2, 0, 2),
		"hits of no places":  raw(0, 1, 0, 2, 0, 0),
		"hits of falling":    raw(0, 1, 0, 4, 0, 2, 0, 0),
		"hits of document 9": raw(1, 1, 9, 3, 9, 1, 1),
		"hits of last":       raw(1, 1, 1, 3, 0, 1, 1),
		"place 65536":        raw(1, 1, 0, 6, 0, 2, 1, 0x83, 0xff, 0x7f),
		"places far above":   raw(1, 1, 0, 6, 0, 1, 0x8f, 0xff, 0xff, 0x7f),
	}
}

func right(t *testing.T) []seg.Source {
	t.Helper()
	list := []seg.Source{flat(3, "a", "b", "a", "c"), flat(4), flat(1<<30-1, "c", "c")}
	list[0].Doc.Sentences, list[0].Doc.Paragraphs = []int{1, 2}, []int{2, 3}
	return list
}

func TestDecodeOfWrongPartsP113(t *testing.T) {
	list := right(t)
	if s, e := seg.Decode(vint.Read(partsOf(t, list).laid())); e != api.OK {
		t.Fatal("what is to be changed is refused:", e)
	} else {
		has(t, s, list)
	}
	for name, change := range wrongParts(t) {
		p := partsOf(t, list)
		change(&p)
		refused(t, name, p.laid())
		refused(t, name+", and more", append(p.laid(), make([]byte, 70000)...))
	}
}

// TestDecodeOfOtherPartsP113: changes that are no faults, each close to one that is.
func TestDecodeOfOtherPartsP113(t *testing.T) {
	for name, change := range map[string]func(p *parts){
		"number ahead":     func(p *parts) { p.docs[0].ID = 0 },
		"number behind":    func(p *parts) { p.docs[1].ID = 1<<30 - 2 },
		"words change":     func(p *parts) { p.hits[0], p.hits[1] = p.hits[1], p.hits[0] },
		"word":             func(p *parts) { p.words[0] = "\x00" },
		"sentences":        func(p *parts) { p.docs[0].Sentences, p.docs[2].Sentences = nil, []int{1} },
		"paragraphs":       func(p *parts) { p.docs[0].Paragraphs, p.docs[2].Paragraphs = []int{1, 2, 3}, []int{1} },
		"name":             func(p *parts) { p.docs[1].Tree.Elems[0].Name = "b" },
		"without the last": func(p *parts) { p.docs, p.hits[2] = p.docs[:2], laidHits(t, post.Hit{Doc: 0, At: []int{3}}) },
	} {
		p := partsOf(t, right(t))
		change(&p)
		b := p.laid()
		s, e := seg.Decode(vint.Read(b))
		if e != api.OK || !bytes.Equal(s.Encode(nil), b) {
			t.Errorf("%s: %v", name, e)
		}
	}
}

func TestDecodeOfTooManyP113(t *testing.T) {
	var empty []seg.Source
	for i := range api.MaxDocs + 1 {
		empty = append(empty, flat(i))
	}
	refused(t, "1001 documents", partsOf(t, empty).laid())
	if s, e := seg.Decode(vint.Read(partsOf(t, empty[1:]).laid())); e != api.OK || s.Len() != api.MaxDocs {
		t.Error("1000 documents without words:", e)
	}
	for _, b := range [][]byte{
		{0x80}, {0x80, 0, 0}, {0, 0x80}, {0, 0x80, 0}, {0}, {1}, {0, 1}, {0, 1, 0}, {0, 1, 0, 0}, {0, 1, 0, 1, 'a'}, {0, 1, 0, 1, 'a', 1, 0}, {0x87, 0x69}, {0xff, 0xff, 0x7f},
		slices.Repeat([]byte{0xff}, 100),
	} {
		refused(t, "wrong", b)
	}
}

// TestDecodeTakesNoRoomP113: counts of many words that don't come must not take the room of these.
func TestDecodeTakesNoRoomP113(t *testing.T) {
	var p parts
	for i := range api.MaxDocs {
		p.docs = append(p.docs, seg.Rec{ID: i, Count: api.MaxText, Tree: alone(api.MaxText)})
	}
	b := p.laid()
	var before, after runtime.MemStats
	runtime.ReadMemStats(&before)
	refused(t, "words that don't come", b)
	runtime.ReadMemStats(&after)
	if room := after.TotalAlloc - before.TotalAlloc; room > 1<<24 {
		t.Error(room, "bytes of memory")
	}
}

// TestDecodeOfOtherFormsP113 lays each number of the bytes ahead of the words in a longer form.
func TestDecodeOfOtherFormsP113(t *testing.T) {
	b := built(t, []seg.Source{flat(3, "a", "b", "a", "c"), flat(4)}).Encode(nil)
	for i := range b {
		refused(t, "a longer form", slices.Insert(slices.Clone(b), i, 0x80))
	}
}

// read is the documents that bytes are of, and how many bytes: by reading them without asking what may be, and laying anew what came of it.
func read(t *testing.T, b []byte) ([]seg.Source, int, bool) {
	t.Helper()
	r := vint.Read(b)
	var list []seg.Source
	for range r.Num(len(b)) {
		var src seg.Source
		src.ID = r.Num(math.MaxInt)
		src.Doc.Words = make([]string, r.Num(api.MaxText))
		src.Doc.Tree = tree.Decode(r)
		for _, starts := range []*[]int{&src.Doc.Sentences, &src.Doc.Paragraphs} {
			for range r.Num(len(b)) {
				*starts = append(*starts, r.Num(math.MaxInt))
			}
		}
		if r.Err() != api.OK {
			return nil, 0, false
		}
		list = append(list, src)
	}
	d, e := dict.Decode(r)
	if e != api.OK {
		return nil, 0, false
	}
	for i := range d.Len() {
		hits, e := post.Decode([]byte(r.Text(len(b))))
		if e != api.OK {
			return nil, 0, false
		}
		for _, h := range hits {
			for _, at := range h.At {
				if h.Doc < len(list) && at < len(list[h.Doc].Doc.Words) {
					list[h.Doc].Doc.Words[at] = d.Word(i)
				}
			}
		}
	}
	size := len(b) - r.Left()
	return list, size, allowed(list) && bytes.Equal(partsOf(t, list).laid(), b[:size])
}

// allowed tells whether documents may be a segment's, by the promise's words.
func allowed(list []seg.Source) bool {
	for i, src := range list {
		d := src.Doc
		if src.ID < 0 || src.ID >= 1<<30 || i > 0 && src.ID <= list[i-1].ID {
			return false
		}
		for _, starts := range [][]int{d.Sentences, d.Paragraphs} {
			for j, n := range starts {
				if n <= 0 || n >= len(d.Words) || j > 0 && n <= starts[j-1] {
					return false
				}
			}
		}
		if len(d.Words) > api.MaxText || slices.Contains(d.Words, "") || !d.Tree.Right(len(d.Words)) {
			return false
		}
	}
	return len(list) <= api.MaxDocs
}

func TestDecodeOfTurnedBytesP113(t *testing.T) {
	r := rand.New(rand.NewSource(113))
	taken, left := 0, 0
	for range 60000 {
		list := random(t, r)
		b := built(t, list[:min(len(list), 3)]).Encode(nil)
		for range r.Intn(3) {
			b = turned(r, b)
		}
		want, size, is := read(t, b)
		rd := vint.Read(b)
		s, e := seg.Decode(rd)
		if is != (e == api.OK) || !is && (s != nil || e != api.ErrForm) {
			t.Fatalf("Decode of %x: %v, but %v", b, e, is)
		}
		if !is {
			left++
			continue
		}
		taken++
		if rd.Left() != len(b)-size || !bytes.Equal(s.Encode(nil), b[:size]) {
			t.Fatalf("Decode of %x: %d left, as bytes %x", b, rd.Left(), s.Encode(nil))
		}
		has(t, s, want)
	}
	if taken < 20000 || left < 10000 {
		t.Error(taken, "were read,", left, "were not")
	}
}

// turned is bytes with one of them another, gone, twice, or changed with one beside it.
func turned(r *rand.Rand, b []byte) []byte {
	at := r.Intn(len(b))
	switch r.Intn(5) {
	case 0:
		b[at] ^= 1 << r.Intn(8)
	case 1:
		b[at] += byte(r.Intn(3)) - 1
	case 2:
		b = slices.Delete(b, at, at+1)
	case 3:
		b = slices.Insert(b, at, b[at])
	case 4:
		next := min(at+1, len(b)-1)
		b[at], b[next] = b[next], b[at]
	}
	if len(b) == 0 {
		return []byte{0}
	}
	return b
}

// TestReadAnswersTheSameP113: what was read finds the same.
func TestReadAnswersTheSameP113(t *testing.T) {
	r := rand.New(rand.NewSource(1131))
	for range 300 {
		list := random(t, r)
		s := built(t, list)
		u, e := seg.Decode(vint.Read(s.Encode(nil)))
		if e != api.OK {
			t.Fatal(e)
		}
		has(t, u, list)
		for range 20 {
			x := question(t, r)
			if !sameHits(s.Hits(x), u.Hits(x)) {
				t.Fatalf("%v: Hits of %v: %v, not %v", list, x, u.Hits(x), s.Hits(x))
			}
			k, from, to := r.Intn(8)-1, r.Intn(10)-2, r.Intn(30)-2
			if !slices.Equal(s.Places(x, k, from, to), u.Places(x, k, from, to)) {
				t.Fatalf("%v: Places of %v", list, x)
			}
		}
	}
}

// TestReadIsItsOwnP113: the documents of a segment may be changed in an answer, whether it was made or read.
func TestReadIsItsOwnP113(t *testing.T) {
	list := three(t)
	s, _ := seg.Decode(vint.Read(built(t, list).Encode(nil)))
	for k := range list {
		spoil(s.Source(k).Doc)
		rec := s.Rec(k)
		spoil(token.Doc{Tree: rec.Tree, Sentences: rec.Sentences, Paragraphs: rec.Paragraphs})
		clear(s.Places(alike.Word{Any: true}, k, 0, 9))
	}
	has(t, s, list)
}
