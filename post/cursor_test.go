package post_test

import (
	"math"
	"math/rand"
	"slices"
	"testing"

	"catchword/api"
	"catchword/post"
)

// act is one call of a cursor, and what it tells; doc below 0: none.
type act struct {
	ask   int
	doc   int
	skips int
}

// next stands for Next, where else a document stands that is sought.
const next = -1000

func run(t *testing.T, hits []post.Hit, acts []act) {
	t.Helper()
	c := post.Open(encoded(t, hits))
	if c == nil || c.Skips != 0 {
		t.Fatal("a cursor that isn't ahead of all")
	}
	for i, a := range acts {
		var h post.Hit
		var ok bool
		if a.ask == next {
			h, ok = c.Next()
		} else {
			h, ok = c.Seek(a.ask)
		}
		if ok != (a.doc >= 0) || c.Skips != a.skips {
			t.Errorf("%d hits, act %d (%d): %v, %v, %d passed over, not %v", len(hits), i, a.ask, h, ok, c.Skips, a)
		}
		if !ok && (h.Doc != 0 || len(h.At) != 0) {
			t.Errorf("%d hits, act %d (%d): %v beside false", len(hits), i, a.ask, h)
		}
		if ok && (h.Doc != a.doc || !slices.Equal(h.At, placesOf(hits, a.doc))) {
			t.Errorf("%d hits, act %d (%d): %v, not %d", len(hits), i, a.ask, h, a.doc)
		}
	}
}

func placesOf(hits []post.Hit, doc int) []int {
	for _, h := range hits {
		if h.Doc == doc {
			return h.At
		}
	}
	return nil
}

func TestNextP93(t *testing.T) {
	for _, n := range sizes {
		var acts []act
		for _, h := range some(n) {
			acts = append(acts, act{next, h.Doc, 0})
		}
		acts = append(acts, act{next, -1, 0}, act{next, -1, 0})
		run(t, some(n), acts)
	}
}

// Of eleven hits the blocks are 2 5 8 11, 14 17 20 23, and 26 29 32.
func TestSeekP93(t *testing.T) {
	for _, acts := range [][]act{
		{{0, 2, 0}, {0, 5, 0}, {0, 8, 0}},                                 // from 0 on: one by one
		{{-1, 2, 0}, {math.MinInt, 5, 0}},                                 // so below 0
		{{2, 2, 0}, {2, 5, 0}, {2, 8, 0}},                                 // the same document again: the one behind it
		{{5, 5, 0}, {5, 8, 0}, {1, 11, 0}, {1, 14, 0}},                    // below the last one that was told
		{{3, 5, 0}, {6, 8, 0}, {9, 11, 0}, {12, 14, 0}},                   // between two
		{{11, 11, 0}, {12, 14, 0}},                                        // the last one of a block isn't passed over with it
		{{12, 14, 1}, {14, 17, 1}, {24, 26, 1}},                           // a block of which one was looked at isn't counted
		{{13, 14, 1}, {23, 23, 1}, {24, 26, 1}, {33, -1, 1}},              // nor one that was looked at up to its end
		{{24, 26, 2}, {27, 29, 2}, {30, 32, 2}, {0, -1, 2}},               // two at once
		{{26, 26, 2}, {33, -1, 2}},                                        //
		{{23, 23, 1}, {next, 26, 1}},                                      //
		{{2, 2, 0}, {24, 26, 1}, {next, 29, 1}, {next, 32, 1}},            //
		{{11, 11, 0}, {24, 26, 1}},                                        // all of the first block were looked at
		{{32, 32, 2}, {32, -1, 2}, {0, -1, 2}, {next, -1, 2}},             //
		{{33, -1, 3}, {0, -1, 3}, {next, -1, 3}, {33, -1, 3}},             // above all: all are passed over
		{{math.MaxInt, -1, 3}, {math.MinInt, -1, 3}},                      //
		{{next, 2, 0}, {math.MaxInt, -1, 2}, {next, -1, 2}},               //
		{{next, 2, 0}, {20, 20, 0}, {21, 23, 0}, {33, -1, 1}, {0, -1, 1}}, // the second one has 20
		{{next, 2, 0}, {next, 5, 0}, {8, 8, 0}, {next, 11, 0}, {next, 14, 0}, {32, 32, 0}, {next, -1, 0}},
		{{14, 14, 1}, {next, 17, 1}, {next, 20, 1}, {next, 23, 1}, {next, 26, 1}, {next, 29, 1}, {next, 32, 1}, {next, -1, 1}},
	} {
		run(t, some(11), acts)
	}
}

func TestSeekOfFewP93(t *testing.T) {
	for n, acts := range map[int][][]act{
		0: {{{0, -1, 0}, {next, -1, 0}, {5, -1, 0}}, {{next, -1, 0}}, {{-1, -1, 0}}},
		1: {{{2, 2, 0}, {2, -1, 0}}, {{3, -1, 1}, {0, -1, 1}}, {{1, 2, 0}, {next, -1, 0}}},
		4: {{{12, -1, 1}}, {{11, 11, 0}, {next, -1, 0}, {12, -1, 0}}, {{2, 2, 0}, {12, -1, 0}}},
		5: {{{12, 14, 1}, {next, -1, 1}}, {{15, -1, 2}}, {{10, 11, 0}, {15, -1, 1}}, {{10, 11, 0}, {14, 14, 0}, {14, -1, 0}}},
		8: {{{24, -1, 2}}, {{23, 23, 1}, {24, -1, 1}}, {{11, 11, 0}, {24, -1, 1}}},
		9: {{{24, 26, 2}}, {{27, -1, 3}}, {{5, 5, 0}, {27, -1, 2}}, {{14, 14, 1}, {27, -1, 2}}},
	} {
		for _, a := range acts {
			run(t, some(n), a)
		}
	}
}

func TestSeekOfAllDocumentsP93(t *testing.T) {
	hits := full()
	run(t, hits, []act{{999, 999, 249}, {next, -1, 249}})
	run(t, hits, []act{{1000, -1, 250}})
	run(t, hits, []act{{7, 7, 1}, {500, 500, 124}, {999, 999, 247}, {0, -1, 247}})
}

// walk is a cursor by the list of hits itself.
type walk struct {
	hits  []post.Hit
	at    int
	seen  [300]bool
	skips int
}

func (w *walk) seek(doc int) (post.Hit, bool) {
	for w.at < len(w.hits) {
		block := w.at / 4
		end := min(block*4+4, len(w.hits))
		if !w.seen[block] && w.hits[end-1].Doc < doc {
			w.skips++
			w.at = end
			continue
		}
		w.seen[block] = true
		w.at++
		if w.hits[w.at-1].Doc >= doc {
			return w.hits[w.at-1], true
		}
	}
	return post.Hit{}, false
}

func TestCursorByTheListP93(t *testing.T) {
	r := rand.New(rand.NewSource(93))
	for range 8000 {
		hits := random(r)
		c, w := post.Open(encoded(t, hits)), walk{hits: hits}
		most := 10
		if len(hits) > 0 {
			most += hits[len(hits)-1].Doc
		}
		for range 2 + len(hits) {
			var got, want post.Hit
			var ok, is bool
			doc := 0
			if r.Intn(2) == 0 {
				got, ok = c.Next()
			} else {
				doc = r.Intn(most/(1+r.Intn(4))+1) - 3
				got, ok = c.Seek(doc)
			}
			want, is = w.seek(doc)
			if ok != is || got.Doc != want.Doc || !slices.Equal(got.At, want.At) || c.Skips != w.skips {
				t.Fatalf("%v, Seek of %d: %v, %v, %d passed over, not %v, %v, %d", hits, doc, got, ok, c.Skips, want, is, w.skips)
			}
		}
	}
}

func TestCursorsOfNothingP93(t *testing.T) {
	var none *post.Cursor
	for _, c := range []*post.Cursor{none, {}, post.Open(nil), post.Open([]byte{}), post.Open([]byte{0})} {
		for _, doc := range []int{0, -1, 5, math.MaxInt, math.MinInt} {
			if h, ok := c.Seek(doc); ok || h.Doc != 0 || len(h.At) != 0 {
				t.Error("Seek of nothing:", h, ok)
			}
			if h, ok := c.Next(); ok || h.Doc != 0 || len(h.At) != 0 {
				t.Error("Next of nothing:", h, ok)
			}
		}
		if c != nil && c.Skips != 0 {
			t.Error("of nothing were passed over:", c.Skips)
		}
	}
}

// ends checks that a walk through any bytes ends, and tells no document below the one that is sought.
func ends(t *testing.T, b []byte, doc int) {
	t.Helper()
	c := post.Open(b)
	for range api.MaxDocs + 1 {
		h, ok := c.Seek(doc)
		if !ok {
			if h, ok := c.Next(); ok {
				t.Errorf("%x: %v behind the end", b, h)
			}
			return
		}
		if h.Doc < doc {
			t.Errorf("%x, Seek of %d: %v", b, doc, h)
		}
	}
	t.Errorf("%x: it doesn't end", b)
}

func TestCursorOfOtherBytesEndsP93(t *testing.T) {
	r := rand.New(rand.NewSource(932))
	for range 40000 {
		b := laid(random(r), 1+r.Intn(6))
		for range 1 + r.Intn(3) {
			b[r.Intn(len(b))] = byte(r.Intn(256) >> r.Intn(8))
		}
		ends(t, b[:r.Intn(len(b)+1)], r.Intn(300)-100)
	}
	for _, b := range [][]byte{
		{0xff}, {0x80}, {0x87, 0x68}, {0x87, 0x68, 0, 0, 0, 0}, {1, 0, 0}, {1, 0, 1, 0}, {1, 0, 2, 0, 0}, {4, 0, 3, 0, 1, 0}, {1, 0, 5, 0, 2, 1, 2},
		{8, 9, 0, 0, 0}, {8, 9, 3, 0, 1, 0, 1, 3, 0, 1, 0}, {1, 0, 5, 0, 0x84, 0x80, 0, 1}, {0xff, 0xff, 0xff, 0xff, 0x7f, 0, 0},
	} {
		for _, doc := range []int{0, -1, 1, 9, 10, 2000, math.MaxInt} {
			ends(t, b, doc)
		}
	}
	for _, n := range sizes {
		b := encoded(t, some(n))
		for i := range b {
			for _, doc := range []int{0, 3, 12, 24, 40} {
				ends(t, b[:i], doc)
			}
		}
	}
}

// TestCursorEndsAtAFaultP93: what is behind a block that can't be read isn't told.
func TestCursorEndsAtAFaultP93(t *testing.T) {
	for _, b := range [][]byte{
		{5, 3, 4, 0, 1, 0, 1, 1, 3, 1, 1, 0},             // the first block ends within its second hit
		{5, 3, 3, 0, 1, 0, 1, 3, 1, 1, 0},                // the first block has one hit alone
		{5, 3, 6, 0, 1, 0, 1, 1, 0x80, 1, 3, 1, 1, 0},    // a place that is no number
		{5, 3, 7, 0, 1, 0, 0x87, 0x69, 1, 0, 1, 3, 1, 1}, // a document that is too great
	} {
		c := post.Open(b)
		if h, ok := c.Next(); !ok || h.Doc != 0 || !slices.Equal(h.At, []int{0}) {
			t.Errorf("%x, Next: %v, %v", b, h, ok)
		}
		for range 5 {
			if h, ok := c.Next(); ok || h.Doc != 0 || len(h.At) != 0 {
				t.Errorf("%x, Next behind the fault: %v, %v", b, h, ok)
			}
		}
	}
}

func TestCursorKeepsNothingP93(t *testing.T) {
	hits := some(9)
	b := encoded(t, hits)
	c := post.Open(b)
	for i := range b {
		b[i] = 0
	}
	for _, want := range hits {
		h, ok := c.Next()
		if !ok || h.Doc != want.Doc || !slices.Equal(h.At, want.At) {
			t.Fatalf("%v, %v: the bytes are kept", h, ok)
		}
		for k := range h.At[:cap(h.At)] {
			h.At[:cap(h.At)][k] = -1
		}
	}
}

func TestCursorsStandAloneP93(t *testing.T) {
	b := encoded(t, some(9))
	c, d := post.Open(b), post.Open(b)
	c.Seek(20)
	if h, ok := d.Next(); !ok || h.Doc != 2 || d.Skips != 0 || c.Skips != 1 {
		t.Error("two cursors of the same bytes:", h, ok, c.Skips, d.Skips)
	}
	if h, ok := c.Next(); !ok || h.Doc != 23 {
		t.Error("two cursors of the same bytes:", h, ok)
	}
}
