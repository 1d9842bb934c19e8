package post_test

import (
	"bytes"
	"math"
	"math/rand"
	"reflect"
	"slices"
	"testing"

	"catchword/api"
	"catchword/post"
	"catchword/vint"
)

// sizes are those at which a block begins, is full, or is just not.
var sizes = []int{0, 1, 2, 3, 4, 5, 7, 8, 9, 12, 13}

// some is so many hits, three documents apart, with places that need one, two and three bytes.
func some(size int) []post.Hit {
	var hits []post.Hit
	for i := range size {
		hits = append(hits, post.Hit{Doc: 2 + i*3, At: []int{i, i + 5, i + 300, i + 40000}})
	}
	return hits
}

// random is hits by chance: of few or many documents, with few or many places, close together or far apart.
func random(r *rand.Rand) []post.Hit {
	var hits []post.Hit
	step := []int{1, 3, 90}[r.Intn(3)]
	for doc := r.Intn(step); doc < api.MaxDocs && len(hits) < 14; doc += 1 + r.Intn(step) {
		if r.Intn(20) == 0 {
			break
		}
		var at []int
		far := []int{1, 3, 200, 30000}[r.Intn(4)]
		for place := r.Intn(far); place < api.MaxText && len(at) < 1+r.Intn(6); place += 1 + r.Intn(far) {
			at = append(at, place)
		}
		if len(at) > 0 {
			hits = append(hits, post.Hit{Doc: doc, At: at})
		}
	}
	return hits
}

// copied is hits in memory of their own.
func copied(hits []post.Hit) []post.Hit {
	var list []post.Hit
	for _, h := range hits {
		list = append(list, post.Hit{Doc: h.Doc, At: slices.Clone(h.At)})
	}
	return list
}

// same tells whether hits are the same, where no places may be nil or empty.
func same(a, b []post.Hit) bool {
	return slices.EqualFunc(a, b, func(x, y post.Hit) bool { return x.Doc == y.Doc && slices.Equal(x.At, y.At) })
}

func encoded(t *testing.T, hits []post.Hit) []byte {
	t.Helper()
	b, e := post.Encode(hits)
	if e != api.OK {
		t.Fatalf("Encode of %v: %v", hits, e)
	}
	return b
}

// wrongHits are lists with one fault each.
func wrongHits() [][]post.Hit {
	one := []int{0}
	return [][]post.Hit{
		{{Doc: -1, At: one}},
		{{Doc: math.MinInt, At: one}},
		{{Doc: 1000, At: one}},
		{{Doc: math.MaxInt, At: one}},
		{{Doc: 3, At: one}, {Doc: 3, At: one}},
		{{Doc: 3, At: one}, {Doc: 2, At: one}},
		{{Doc: 0, At: one}, {Doc: -1, At: one}},
		{{Doc: 0, At: one}, {Doc: 1, At: one}, {Doc: 2, At: one}, {Doc: 3, At: one}, {Doc: 3, At: one}},
		{{Doc: 0, At: one}, {Doc: 1, At: one}, {Doc: 2, At: one}, {Doc: 3, At: one}, {Doc: 2, At: one}, {Doc: 5, At: one}},
		{{Doc: 999, At: one}, {Doc: 1000, At: one}},
		{{Doc: 0}},
		{{Doc: 0, At: []int{}}},
		{{Doc: 0, At: one}, {Doc: 1}},
		{{Doc: 0}, {Doc: 1, At: one}},
		{{Doc: 0, At: []int{-1}}},
		{{Doc: 0, At: []int{-1, 0}}},
		{{Doc: 0, At: []int{math.MinInt, 5}}},
		{{Doc: 0, At: []int{65536}}},
		{{Doc: 0, At: []int{65535, 65536}}},
		{{Doc: 0, At: []int{math.MaxInt}}},
		{{Doc: 0, At: []int{2, 2}}},
		{{Doc: 0, At: []int{0, 0}}},
		{{Doc: 0, At: []int{1, 3, 2}}},
		{{Doc: 0, At: []int{5, 1}}},
		{{Doc: 0, At: one}, {Doc: 1, At: []int{4, 7, 7}}},
		{{Doc: 0, At: one}, {Doc: 1, At: []int{4, 7, 3}}, {Doc: 2, At: one}},
	}
}

// rightHits are lists at the edges of what they may be.
func rightHits() [][]post.Hit {
	lists := [][]post.Hit{
		nil,
		{},
		{{Doc: 0, At: []int{0}}},
		{{Doc: 999, At: []int{0}}},
		{{Doc: 0, At: []int{65535}}},
		{{Doc: 0, At: []int{0, 1, 65534, 65535}}, {Doc: 999, At: []int{0, 65535}}},
		{{Doc: 5, At: []int{9}}, {Doc: 6, At: []int{3}}, {Doc: 8, At: []int{3}}}, // places of two documents needn't rise
	}
	for _, n := range sizes {
		lists = append(lists, some(n))
	}
	return lists
}

func TestRightP91(t *testing.T) {
	for _, hits := range rightHits() {
		if !post.Right(hits) {
			t.Errorf("%v isn't right", hits)
		}
	}
	for _, hits := range wrongHits() {
		if post.Right(hits) {
			t.Errorf("%v is right", hits)
		}
	}
}

// full is hits of all documents, and of one of them all places.
func full() []post.Hit {
	var hits []post.Hit
	for doc := range api.MaxDocs {
		hits = append(hits, post.Hit{Doc: doc, At: []int{doc}})
	}
	var all []int
	for place := range api.MaxText {
		all = append(all, place)
	}
	hits[7].At = all
	return hits
}

func TestRightOfAllP91(t *testing.T) {
	hits := full()
	if !post.Right(hits) {
		t.Error("all documents aren't right")
	}
	hits = append(hits, post.Hit{Doc: api.MaxDocs, At: []int{0}})
	if post.Right(hits) {
		t.Error("one document more is right")
	}
	hits = full()
	hits[7].At = append(hits[7].At, api.MaxText)
	if post.Right(hits) {
		t.Error("one place more is right")
	}
}

func TestEncodeP92(t *testing.T) {
	one := []int{0}
	for _, x := range []struct {
		hits []post.Hit
		want []byte
	}{
		{nil, []byte{0}},
		{[]post.Hit{}, []byte{0}},
		{[]post.Hit{{Doc: 0, At: []int{1, 3}}}, []byte{1, 0, 4, 0, 2, 1, 2}},
		{[]post.Hit{{Doc: 0, At: one}}, []byte{1, 0, 3, 0, 1, 0}},
		{[]post.Hit{{Doc: 999, At: []int{65535}}}, []byte{1, 0x87, 0x67, 6, 0x87, 0x67, 1, 0x83, 0xff, 0x7f}},
		{[]post.Hit{{Doc: 5, At: []int{300}}, {Doc: 300, At: []int{2, 9}}}, []byte{2, 0x82, 0x2c, 9, 5, 1, 0x82, 0x2c, 0x82, 0x27, 2, 2, 7}},
		{
			[]post.Hit{{Doc: 1, At: one}, {Doc: 2, At: one}, {Doc: 5, At: one}, {Doc: 7, At: one}},
			[]byte{4, 7, 12, 1, 1, 0, 1, 1, 0, 3, 1, 0, 2, 1, 0},
		},
		{ // the first document of a block is told by the last one of the block ahead, too
			[]post.Hit{{Doc: 1, At: one}, {Doc: 2, At: one}, {Doc: 5, At: one}, {Doc: 7, At: one}, {Doc: 10, At: []int{4, 6}}},
			[]byte{5, 7, 12, 1, 1, 0, 1, 1, 0, 3, 1, 0, 2, 1, 0, 3, 4, 3, 2, 4, 2},
		},
		{
			[]post.Hit{{Doc: 0, At: one}, {Doc: 1, At: one}, {Doc: 2, At: one}, {Doc: 3, At: one}, {Doc: 4, At: one}, {Doc: 5, At: one}, {Doc: 6, At: one}, {Doc: 9, At: one}, {Doc: 209, At: one}},
			[]byte{9, 3, 12, 0, 1, 0, 1, 1, 0, 1, 1, 0, 1, 1, 0, 6, 12, 1, 1, 0, 1, 1, 0, 1, 1, 0, 3, 1, 0, 0x81, 0x48, 4, 0x81, 0x48, 1, 0},
		},
	} {
		if got, e := post.Encode(x.hits); e != api.OK || !bytes.Equal(got, x.want) {
			t.Errorf("Encode of %v: %x, %v, not %x", x.hits, got, e, x.want)
		}
		if got, e := post.Decode(x.want); e != api.OK || !same(got, x.hits) {
			t.Errorf("Decode of %x: %v, %v, not %v", x.want, got, e, x.hits)
		}
	}
	if post.Block != 4 {
		t.Error("hits of a block:", post.Block)
	}
}

func TestEncodeOfWrongHitsP92(t *testing.T) {
	for _, hits := range wrongHits() {
		if b, e := post.Encode(hits); e != api.ErrArg || len(b) > 0 {
			t.Errorf("Encode of %v: %x, %v", hits, b, e)
		}
	}
}

// laid is the bytes of hits, as the document says it, by blocks of any size.
func laid(hits []post.Hit, size int) []byte {
	b := vint.Put(nil, uint64(len(hits)))
	for first := 0; first < len(hits); first += size {
		end := min(first+size, len(hits))
		ahead := 0
		if first > 0 {
			ahead = hits[first-1].Doc
		}
		var inner []byte
		for i := first; i < end; i++ {
			above := hits[i].Doc
			if i > 0 {
				above -= hits[i-1].Doc
			}
			inner = vint.Put(vint.Put(inner, uint64(above)), uint64(len(hits[i].At)))
			for k, at := range hits[i].At {
				if k > 0 {
					at -= hits[i].At[k-1]
				}
				inner = vint.Put(inner, uint64(at))
			}
		}
		b = vint.Put(b, uint64(hits[end-1].Doc-ahead))
		b = append(vint.Put(b, uint64(len(inner))), inner...)
	}
	return b
}

func TestThereAndBackP92(t *testing.T) {
	r := rand.New(rand.NewSource(92))
	lists := append(rightHits(), full())
	for range 3000 {
		lists = append(lists, random(r))
	}
	for _, hits := range lists {
		before := copied(hits)
		b, e := post.Encode(hits)
		if e != api.OK || !bytes.Equal(b, laid(hits, 4)) {
			t.Fatalf("Encode of %v: %x, %v", hits, b, e)
		}
		bytesBefore := slices.Clone(b)
		got, e := post.Decode(b)
		if e != api.OK || !same(got, hits) {
			t.Fatalf("Decode of %x: %v, %v", b, got, e)
		}
		if !same(before, hits) || !bytes.Equal(bytesBefore, b) {
			t.Fatalf("%v or %x was changed", before, bytesBefore)
		}
	}
}

// refused checks that bytes are no hits'.
func refused(t *testing.T, b []byte) {
	t.Helper()
	if hits, e := post.Decode(b); e != api.ErrForm || len(hits) > 0 {
		t.Errorf("Decode of %x: %v, %v", b, hits, e)
	}
}

func TestDecodeOfBytesCutOffOrMoreP92(t *testing.T) {
	refused(t, nil)
	refused(t, []byte{})
	for _, n := range sizes {
		b := encoded(t, some(n))
		for i := range b {
			refused(t, b[:i])
		}
		for _, more := range [][]byte{{0}, {1}, {0x80}, {0xff}, {0, 0}, b} {
			refused(t, slices.Concat(b, more))
			refused(t, slices.Concat(more[:1], b))
		}
	}
}

func TestDecodeOfOtherBytesP92(t *testing.T) {
	for _, b := range [][]byte{
		{0x80}, {0xff}, {0x80, 0}, // no number
		{1}, {4}, {0, 0, 0},
		{1, 0, 0}, {1, 0, 1, 0}, {1, 0, 2, 0, 0}, // a hit without bytes, without a count, without places
		{1, 0, 4, 0, 2, 1, 0},                // a place twice
		{1, 0, 3, 0, 2, 1},                   // fewer places than said
		{1, 0, 5, 0, 2, 1, 2, 3},             // more
		{1, 0, 4, 0, 1, 1, 2},                // more bytes than the places are
		{1, 0, 3, 0, 2, 1, 2},                // a length that is too small
		{1, 0, 5, 0, 2, 1, 2},                // too great
		{1, 0, 5, 0, 2, 1, 2, 0},             // a byte more in the block
		{1, 0, 0x80, 4, 0, 2, 1, 2},          // a length in another form
		{1, 0x80, 0, 4, 0, 2, 1, 2},          // a last document
		{0x80, 1, 0, 4, 0, 2, 1, 2},          // a count
		{1, 0, 5, 0x80, 0, 2, 1, 2},          // a document
		{1, 0, 5, 0, 0x80, 2, 1, 2},          // a count of places
		{1, 0, 5, 0, 2, 0x80, 1, 2},          // a place
		{1, 1, 4, 0, 2, 1, 2},                // a last document above that of its hits
		{1, 0, 4, 1, 2, 1, 2},                // below
		{2, 0, 4, 0, 2, 1, 2},                // fewer hits than said
		{0, 0, 4, 0, 2, 1, 2},                // more
		{2, 1, 6, 0, 1, 0, 0, 1, 0},          // a document twice
		{2, 0, 6, 0, 1, 0, 0, 1, 0},          // the same, by its last one
		{1, 0x87, 0x68, 4, 0x87, 0x68, 1, 0}, // document 1000
		{1, 0, 5, 0, 1, 0x84, 0x80, 0},       // place 65536
		{1, 0, 6, 0, 2, 1, 0x83, 0xff, 0x7f}, // the same, from the one ahead
		{1, 0, 12, 0, 1, 0x81, 0xff, 0xff, 0xff, 0xff, 0xff, 0xff, 0xff, 0xff, 0x7f}, // the greatest number there is
		{1, 0x81, 0xff, 0xff, 0xff, 0xff, 0xff, 0xff, 0xff, 0xff, 0x7f, 3, 0, 1, 0},
		{0x81, 0xff, 0xff, 0xff, 0xff, 0xff, 0xff, 0xff, 0xff, 0x7f, 0, 3, 0, 1, 0},
		{1, 0, 0x81, 0xff, 0xff, 0xff, 0xff, 0xff, 0xff, 0xff, 0xff, 0x7f, 0, 1, 0},
		{1, 0, 12, 0, 0x81, 0xff, 0xff, 0xff, 0xff, 0xff, 0xff, 0xff, 0xff, 0x7f, 0},
	} {
		refused(t, b)
	}
}

func TestDecodeOfOtherBlocksP92(t *testing.T) {
	for _, n := range sizes {
		hits := some(n)
		for size := 1; size < 16; size++ {
			b := laid(hits, size)
			if bytes.Equal(b, laid(hits, 4)) {
				continue
			}
			refused(t, b)
		}
	}
	// A hit more, or a document's number too great, with all else as it should be.
	many := full()
	refused(t, laid(append(many, post.Hit{Doc: api.MaxDocs, At: []int{0}}), 4))
	for _, hits := range [][]post.Hit{
		{{Doc: 1000, At: []int{1}}}, {{Doc: 1, At: []int{65536}}}, {{Doc: 1, At: []int{1, 1}}}, {{Doc: 1}}, {{Doc: 4, At: []int{1}}, {Doc: 4, At: []int{2}}},
	} {
		refused(t, laid(hits, 4))
	}
}

// numbers is bytes as the numbers that they are, and false, if they aren't.
func numbers(b []byte) ([]int, bool) {
	var list []int
	for len(b) > 0 {
		n, size := vint.Get(b)
		if size == 0 || n > math.MaxInt32 {
			return nil, false
		}
		list = append(list, int(n))
		b = b[size:]
	}
	return list, true
}

// TestDecodeOfTurnedBytesP92: whatever bytes there are: they are those of the hits that are told, or refused; and none that hits have is refused.
func TestDecodeOfTurnedBytesP92(t *testing.T) {
	r := rand.New(rand.NewSource(922))
	found := 0
	for range 60000 {
		b := laid(random(r), 4)
		for range 1 + r.Intn(2) {
			i := r.Intn(len(b))
			switch r.Intn(4) {
			case 0:
				b[i] ^= 1 << r.Intn(8)
			case 1:
				b[i] += byte(r.Intn(5) - 2)
			case 2:
				b = slices.Insert(b, i, byte(r.Intn(4)))
			default:
				if len(b) > 1 {
					b = slices.Delete(b, i, i+1)
				}
			}
		}
		want, right := read(b)
		got, e := post.Decode(b)
		if right != (e == api.OK) || !same(got, want) || !right && e != api.ErrForm {
			t.Fatalf("Decode of %x: %v, %v, not %v, %v", b, got, e, want, right)
		}
		if right {
			found++
		}
	}
	if found < 2000 {
		t.Error("only", found, "were right")
	}
}

// read is the hits of bytes, by all their numbers in turn.
func read(b []byte) ([]post.Hit, bool) {
	list, ok := numbers(b)
	if !ok || len(list) == 0 {
		return nil, false
	}
	bad := false
	take := func() int {
		if len(list) == 0 {
			bad = true
			return 0
		}
		n := list[0]
		list = list[1:]
		return n
	}
	var hits []post.Hit
	count := take()
	doc, last := 0, 0
	for !bad && len(hits) < count {
		last += take()
		length := take()
		size := 0
		number := func() int {
			n := take()
			size += len(vint.Put(nil, uint64(n)))
			return n
		}
		for range min(4, count-len(hits)) {
			doc += number()
			h := post.Hit{Doc: doc}
			place := 0
			for k := number(); k > 0 && !bad; k-- {
				place += number()
				h.At = append(h.At, place)
			}
			hits = append(hits, h)
		}
		bad = bad || size != length || last != doc
	}
	if bad || len(list) > 0 || !post.Right(hits) {
		return nil, false
	}
	return hits, true
}

func TestDecodeSharesNothingP92(t *testing.T) {
	hits := some(6)
	b := encoded(t, hits)
	got, _ := post.Decode(b)
	for i := range b {
		b[i] = 0xff
	}
	for i, h := range got {
		if !slices.Equal(h.At, hits[i].At) {
			t.Error("the bytes are shared")
		}
		for k := range h.At[:cap(h.At)] {
			h.At[:cap(h.At)][k] = -7
		}
		for _, other := range got[i+1:] {
			if slices.Contains(other.At, -7) {
				t.Error("two hits share their places")
			}
		}
	}
}

func TestWithinP94(t *testing.T) {
	at := []int{0, 3, 4, 9, 65535}
	for _, x := range []struct {
		from, to int
		want     []int
	}{
		{0, 65536, at}, {-5, 100000, at}, {math.MinInt, math.MaxInt, at},
		{0, 0, nil}, {0, 1, []int{0}}, {1, 3, nil}, {1, 4, []int{3}}, {3, 4, []int{3}}, {3, 5, []int{3, 4}}, {4, 9, []int{4}}, {4, 10, []int{4, 9}},
		{5, 9, nil}, {9, 65535, []int{9}}, {9, 65536, []int{9, 65535}}, {10, 65536, []int{65535}}, {65535, 65536, []int{65535}}, {65536, 70000, nil},
		{4, 4, nil}, {4, 3, nil}, {9, 0, nil}, {65536, 0, nil}, {0, -1, nil}, {-3, -1, nil}, {-3, 0, nil}, {-3, 1, []int{0}}, {math.MaxInt, math.MinInt, nil},
	} {
		if got := (post.Hit{Doc: 4, At: at}).Within(x.from, x.to); !slices.Equal(got, x.want) {
			t.Errorf("within %d, %d: %v, not %v", x.from, x.to, got, x.want)
		}
		if got := (post.Hit{Doc: 4}).Within(x.from, x.to); len(got) != 0 {
			t.Errorf("within %d, %d of none: %v", x.from, x.to, got)
		}
	}
}

func TestWithinByPlacesOneByOneP94(t *testing.T) {
	r := rand.New(rand.NewSource(94))
	for range 3000 {
		var at []int
		for place := r.Intn(4); len(at) < r.Intn(12); place += 1 + r.Intn(4) {
			at = append(at, place)
		}
		from, to := r.Intn(40)-5, r.Intn(40)-5
		var want []int
		for _, place := range at {
			if place >= from && place < to {
				want = append(want, place)
			}
		}
		h := post.Hit{Doc: 1, At: slices.Clone(at)}
		got := h.Within(from, to)
		if !slices.Equal(got, want) {
			t.Fatalf("%v within %d, %d: %v", at, from, to, got)
		}
		for i := range got {
			got[i] = -1
		}
		_ = append(got, -1)
		if !slices.Equal(h.At, at) {
			t.Fatalf("%v: its places are shared", at)
		}
	}
}

// TestWithinOfFallingPlacesP94: of places that don't rise nothing is promised but an end.
func TestWithinOfFallingPlacesP94(t *testing.T) {
	r := rand.New(rand.NewSource(941))
	for range 3000 {
		h := post.Hit{At: r.Perm(r.Intn(12))}
		h.Within(r.Intn(16)-2, r.Intn(16)-2)
	}
}

func TestMergeP94(t *testing.T) {
	type list = []post.Hit
	for _, x := range []struct {
		lists []list
		want  list
	}{
		{nil, nil},
		{[]list{nil}, nil},
		{[]list{nil, {}, nil}, nil},
		{[]list{{{Doc: 3, At: []int{1, 4}}}}, list{{Doc: 3, At: []int{1, 4}}}},
		{[]list{{}, {{Doc: 3, At: []int{1, 4}}}, nil}, list{{Doc: 3, At: []int{1, 4}}}},
		{
			[]list{{{Doc: 1, At: []int{2}}, {Doc: 5, At: []int{0, 7}}}, {{Doc: 0, At: []int{9}}, {Doc: 5, At: []int{3, 7, 8}}}, {{Doc: 5, At: []int{0, 3}}, {Doc: 900, At: []int{1}}}},
			list{{Doc: 0, At: []int{9}}, {Doc: 1, At: []int{2}}, {Doc: 5, At: []int{0, 3, 7, 8}}, {Doc: 900, At: []int{1}}},
		},
		{ // neither documents nor places need rise
			[]list{{{Doc: 9, At: []int{5, 1, 5}}, {Doc: 2, At: []int{4, 1}}}, {{Doc: 2, At: []int{4, 2}}, {Doc: 9, At: []int{3}}, {Doc: 2, At: []int{0}}}},
			list{{Doc: 2, At: []int{0, 1, 2, 4}}, {Doc: 9, At: []int{1, 3, 5}}},
		},
		{ // one without places is a document all the same; numbers may be any
			[]list{{{Doc: 7}}, {{Doc: -4, At: []int{-1, 3}}, {Doc: 1000, At: []int{65536}}}, {{Doc: 7, At: []int{}}, {Doc: math.MinInt, At: []int{math.MaxInt, math.MinInt}}, {Doc: math.MaxInt, At: []int{0}}}},
			list{{Doc: math.MinInt, At: []int{math.MinInt, math.MaxInt}}, {Doc: -4, At: []int{-1, 3}}, {Doc: 7}, {Doc: 1000, At: []int{65536}}, {Doc: math.MaxInt, At: []int{0}}},
		},
		{[]list{{{Doc: 1}}, {{Doc: 1, At: []int{2}}}}, list{{Doc: 1, At: []int{2}}}},
	} {
		if got := post.Merge(x.lists...); !same(got, x.want) {
			t.Errorf("Merge of %v: %v, not %v", x.lists, got, x.want)
		}
	}
}

func TestMergeByEachDocumentP94(t *testing.T) {
	r := rand.New(rand.NewSource(944))
	for range 3000 {
		var lists [][]post.Hit
		var has [20][30]bool
		var there [20]bool
		for range r.Intn(5) {
			var hits []post.Hit
			for range r.Intn(7) {
				h := post.Hit{Doc: r.Intn(len(has))}
				there[h.Doc] = true
				for range r.Intn(6) {
					place := r.Intn(len(has[0]))
					h.At = append(h.At, place)
					has[h.Doc][place] = true
				}
				hits = append(hits, h)
			}
			lists = append(lists, hits)
		}
		var want []post.Hit
		for doc := range has {
			if !there[doc] {
				continue
			}
			h := post.Hit{Doc: doc}
			for place, is := range has[doc] {
				if is {
					h.At = append(h.At, place)
				}
			}
			want = append(want, h)
		}
		var before [][]post.Hit
		for _, hits := range lists {
			before = append(before, copied(hits))
		}
		got := post.Merge(lists...)
		if !same(got, want) {
			t.Fatalf("Merge of %v: %v, not %v", lists, got, want)
		}
		for _, h := range got {
			for k := range h.At[:cap(h.At)] {
				h.At[:cap(h.At)][k] = -1
			}
		}
		for i, hits := range lists {
			if !same(hits, before[i]) {
				t.Fatalf("%v was changed, or is shared: %v", before[i], hits)
			}
		}
	}
}

func TestMergeIsAlwaysTheSameP94(t *testing.T) {
	hits := full()[20:]
	want := post.Merge(hits[500:], hits[:600], some(9))
	for range 20 {
		if !reflect.DeepEqual(post.Merge(hits[500:], hits[:600], some(9)), want) {
			t.Fatal("the same hits are merged in another way")
		}
	}
}
