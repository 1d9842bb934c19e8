package seg_test

import (
	"math"
	"math/rand"
	"slices"
	"strconv"
	"strings"
	"testing"

	"catchword/alike"
	"catchword/api"
	"catchword/dict"
	"catchword/post"
	"catchword/seg"
	"catchword/token"
	"catchword/tree"
	"catchword/xml"
)

// parsed is a document by its number.
func parsed(t *testing.T, id int, s string) seg.Source {
	t.Helper()
	nodes, e := xml.Parse(s)
	if e != api.OK {
		t.Fatalf("Parse of %q: %v", s, e)
	}
	return seg.Source{ID: id, Doc: token.Of(nodes)}
}

// flat is a document of one element with words.
func flat(id int, words ...string) seg.Source {
	return seg.Source{ID: id, Doc: token.Doc{Tree: alone(len(words)), Words: words}}
}

// alone is the tree of one element with so many words.
func alone(words int) tree.Tree {
	return tree.Tree{Elems: []tree.Elem{{Name: "a", Parent: -1, End: 1, To: words}}}
}

// many is so many documents with one word each.
func many(size int) []seg.Source {
	var list []seg.Source
	for i := range size {
		list = append(list, flat(i*3, "w"+strconv.Itoa(i%7)))
	}
	return list
}

// three is documents that have words in common, and one without any.
func three(t *testing.T) []seg.Source {
	t.Helper()
	return []seg.Source{
		parsed(t, 2, "<a>The dog. <p>A dog and <b>dogs</b></p> hunt</a>"),
		parsed(t, 5, "<a/>"),
		parsed(t, 900, "<p><li>Dog! Dog</li>\n\nHunting</p>"),
	}
}

func built(t *testing.T, list []seg.Source) *seg.Seg {
	t.Helper()
	s, e := seg.Build(list)
	if e != api.OK || s == nil {
		t.Fatalf("Build of %v: %v", list, e)
	}
	return s
}

// copied is documents in memory of their own.
func copied(list []seg.Source) []seg.Source {
	list = slices.Clone(list)
	for i, src := range list {
		list[i].Doc = token.Doc{
			Tree:       tree.Tree{Elems: slices.Clone(src.Doc.Tree.Elems)},
			Words:      slices.Clone(src.Doc.Words),
			Sentences:  slices.Clone(src.Doc.Sentences),
			Paragraphs: slices.Clone(src.Doc.Paragraphs),
		}
	}
	return list
}

// spoil changes all that lists of a document hold, and what is behind them.
func spoil(d token.Doc) {
	for _, list := range [][]int{d.Sentences, d.Paragraphs} {
		for i := range list[:cap(list)] {
			list[:cap(list)][i] = -7
		}
	}
	clear(d.Words[:cap(d.Words)])
	clear(d.Tree.Elems[:cap(d.Tree.Elems)])
}

// sameDoc tells whether documents are the same, where what is empty may be nil.
func sameDoc(a, b seg.Source) bool {
	return a.ID == b.ID && slices.Equal(a.Doc.Tree.Elems, b.Doc.Tree.Elems) && slices.Equal(a.Doc.Words, b.Doc.Words) && slices.Equal(a.Doc.Sentences, b.Doc.Sentences) && slices.Equal(a.Doc.Paragraphs, b.Doc.Paragraphs)
}

// ofSource is what is kept of a document.
func ofSource(src seg.Source) seg.Rec {
	return seg.Rec{ID: src.ID, Tree: src.Doc.Tree, Count: len(src.Doc.Words), Sentences: src.Doc.Sentences, Paragraphs: src.Doc.Paragraphs}
}

func sameRec(a, b seg.Rec) bool {
	return a.ID == b.ID && a.Count == b.Count && slices.Equal(a.Tree.Elems, b.Tree.Elems) && slices.Equal(a.Sentences, b.Sentences) && slices.Equal(a.Paragraphs, b.Paragraphs)
}

// vocabulary is all words of documents.
func vocabulary(list []seg.Source) []string {
	var words []string
	for _, src := range list {
		words = append(words, src.Doc.Words...)
	}
	slices.Sort(words)
	return slices.Compact(words)
}

func words(d dict.Dict) []string {
	var list []string
	for i := range d.Len() {
		list = append(list, d.Word(i))
	}
	return list
}

// has holds a segment against the documents that it should be of.
func has(t *testing.T, s *seg.Seg, list []seg.Source) {
	t.Helper()
	if s.Len() != len(list) {
		t.Fatalf("%d documents, not %d", s.Len(), len(list))
	}
	for k, src := range list {
		if got := s.Source(k); !sameDoc(got, src) {
			t.Errorf("Source of %d: %v, not %v", k, got, src)
		}
		if got := s.Rec(k); !sameRec(got, ofSource(src)) {
			t.Errorf("Rec of %d: %v, not %v", k, got, ofSource(src))
		}
	}
	for _, k := range []int{-1, math.MinInt, len(list), len(list) + 1, math.MaxInt} {
		if got := s.Source(k); !sameDoc(got, seg.Source{}) {
			t.Errorf("Source of %d: %v", k, got)
		}
		if got := s.Rec(k); !sameRec(got, seg.Rec{}) {
			t.Errorf("Rec of %d: %v", k, got)
		}
	}
	if got := words(s.Dict()); !slices.Equal(got, vocabulary(list)) {
		t.Errorf("Dict: %q, not %q", got, vocabulary(list))
	}
}

// random is documents by chance, many of whose words are the same, or alike.
func random(t *testing.T, r *rand.Rand) []seg.Source {
	t.Helper()
	var list []seg.Source
	id := -1
	for range r.Intn(7) {
		id += 1 + r.Intn(4)*r.Intn(400)
		list = append(list, parsed(t, id, "<r>"+randomText(r, 3)+"</r>"))
	}
	return list
}

func randomText(r *rand.Rand, depth int) string {
	pieces := []string{"dog", "Dog", "dogs", "d\u00f6g", "the", "hunt", "hunting", "a", "b", ". ", "\n\n", "! ", "9", "\u00e9t\u00e9"}
	names := []string{"p", "b", "sec", "c"}
	var b strings.Builder
	for range r.Intn(8) {
		if depth > 0 && r.Intn(4) == 0 {
			name := names[r.Intn(len(names))]
			b.WriteString("<" + name + ">" + randomText(r, depth-1) + "</" + name + ">")
		}
		b.WriteString(pieces[r.Intn(len(pieces))] + []string{" ", " ", ""}[r.Intn(3)])
	}
	return b.String()
}

func TestBuildP111(t *testing.T) {
	long := flat(0, slices.Repeat([]string{"x"}, api.MaxText)...)
	for name, list := range map[string][]seg.Source{
		"none":              nil,
		"none, not nil":     {},
		"one":               many(1),
		"1000":              many(1000),
		"without words":     {flat(0)},
		"three":             three(t),
		"first number":      {flat(0, "x"), flat(1, "x")},
		"last numbers":      {flat(1<<30-2, "y"), flat(1<<30-1, "x", "x")},
		"65536 words":       {long},
		"65536 words, more": {long, flat(7, "y", "x", "y")},
		"any words":         {flat(3, "b", "\xff", " ", "\x00", "a b", strings.Repeat("long", 100), "B", "\u00e9", "e\u0301", "b")},
		"starts": {{Doc: token.Doc{
			Tree:       tree.Tree{Elems: []tree.Elem{{Name: "a", Parent: -1, End: 3, To: 4}, {Name: "b", Level: 1, End: 3, From: 1, To: 4}, {Name: "c", Parent: 1, Level: 2, End: 3, From: 2, To: 2}}},
			Words:      []string{"x", "y", "x", "z"},
			Sentences:  []int{1, 2, 3},
			Paragraphs: []int{3}, // a paragraph needs no sentence
		}}},
	} {
		before := copied(list)
		s := built(t, list)
		t.Run(name, func(t *testing.T) { has(t, s, before) })
		for i := range list {
			if !sameDoc(list[i], before[i]) {
				t.Errorf("%s: %v was changed: %v", name, before[i], list[i])
			}
		}
	}
}

func TestBuildOfWrongDocumentsP111(t *testing.T) {
	starts := [][]int{{0}, {4}, {5}, {-1}, {math.MinInt}, {math.MaxInt}, {1, 1}, {2, 1}, {0, 1}, {1, 2, 2}, {1, 3, 2}, {1, 2, 3, 4}}
	wrong := map[string]func(list []seg.Source) []seg.Source{
		"below 0":       func(list []seg.Source) []seg.Source { list[0].ID = -1; return list },
		"far below 0":   func(list []seg.Source) []seg.Source { list[0].ID = math.MinInt; return list },
		"twice":         func(list []seg.Source) []seg.Source { list[1].ID = list[0].ID; return list },
		"last twice":    func(list []seg.Source) []seg.Source { list[2].ID = list[1].ID; return list },
		"falls":         func(list []seg.Source) []seg.Source { list[1].ID = list[0].ID - 1; return list },
		"falls at last": func(list []seg.Source) []seg.Source { list[2].ID = list[0].ID; return list },
		"2^30":          func(list []seg.Source) []seg.Source { list[2].ID = 1 << 30; return list },
		"far above":     func(list []seg.Source) []seg.Source { list[2].ID = math.MaxInt; return list },
		"no tree":       func(list []seg.Source) []seg.Source { list[2].Doc.Tree = tree.Tree{}; return list },
		"tree of fewer": func(list []seg.Source) []seg.Source { list[2].Doc.Tree = alone(2); return list },
		"tree of more":  func(list []seg.Source) []seg.Source { list[0].Doc.Tree = alone(5); return list },
		"tree of no name": func(list []seg.Source) []seg.Source {
			list[0].Doc.Tree.Elems[0].Name = ""
			return list
		},
		"no words": func(list []seg.Source) []seg.Source { list[0].Doc.Words = nil; return list },
		"a word more": func(list []seg.Source) []seg.Source {
			list[0].Doc.Words = append(list[0].Doc.Words, "x")
			return list
		},
		"empty word":   func(list []seg.Source) []seg.Source { list[0].Doc.Words[0] = ""; return list },
		"empty word 2": func(list []seg.Source) []seg.Source { list[2].Doc.Words[3] = ""; return list },
		"65537 words": func(list []seg.Source) []seg.Source {
			list[1] = flat(list[1].ID, slices.Repeat([]string{"x"}, api.MaxText+1)...)
			return list
		},
		"1001": func([]seg.Source) []seg.Source { return many(1001) },
		"zero": func([]seg.Source) []seg.Source { return []seg.Source{{}} },
	}
	for _, list := range starts {
		for at := range 3 {
			name := "starts " + strconv.Itoa(at) + " of " + strconv.Itoa(len(wrong))
			wrong["sentences, "+name] = func(docs []seg.Source) []seg.Source { docs[at].Doc.Sentences = list; return docs }
			wrong["paragraphs, "+name] = func(docs []seg.Source) []seg.Source { docs[at].Doc.Paragraphs = list; return docs }
		}
	}
	for name, change := range wrong {
		list := []seg.Source{flat(3, "a", "b", "c", "d"), flat(5, "a", "b", "a", "b"), flat(9, "x", "y", "z", "a")}
		if s, e := seg.Build(list); e != api.OK || s.Len() != 3 {
			t.Fatal("what is to be changed is wrong ahead of it:", e)
		}
		if s, e := seg.Build(change(list)); e != api.ErrArg || s != nil {
			t.Errorf("%s: %v, %v", name, s, e)
		}
	}
	for _, starts := range [][]int{{1}, {0}, {-1}} { // of one word, or none, there are no parts
		for size := range 2 {
			src := flat(0, make([]string, size)...)
			for i := range size {
				src.Doc.Words[i] = "x"
			}
			src.Doc.Sentences = starts
			if _, e := seg.Build([]seg.Source{src}); e != api.ErrArg {
				t.Errorf("sentences %v of %d words: %v", starts, size, e)
			}
		}
	}
}

func TestNilSegmentP111(t *testing.T) {
	var none *seg.Seg
	has(t, none, nil)
	has(t, &seg.Seg{}, nil)
	any := alike.Word{Any: true}
	for _, s := range []*seg.Seg{none, {}} {
		if got := s.Places(any, 0, 0, 9); len(got) != 0 {
			t.Error("Places:", got)
		}
		for _, x := range []alike.Word{any, made(t, "x", alike.Options{}), {}} {
			if got := s.Hits(x); len(got) != 0 {
				t.Error("Hits:", got)
			}
			if got := s.Places(x, 0, 0, 9); len(got) != 0 {
				t.Error("Places:", got)
			}
		}
		if got := string(s.Encode([]byte("x"))); got != "x\x00\x00" {
			t.Errorf("Encode: %x", got)
		}
	}
}

func TestBuildKeepsNothingP111(t *testing.T) {
	list := three(t)
	want := copied(list)
	s := built(t, list)
	for i, src := range list {
		spoil(src.Doc)
		list[i] = seg.Source{}
	}
	has(t, s, want)
}

func TestAnswersAreNewP111(t *testing.T) {
	list := three(t)
	s := built(t, list)
	for k := range list {
		spoil(s.Source(k).Doc)
		rec := s.Rec(k)
		spoil(token.Doc{Tree: rec.Tree, Sentences: rec.Sentences, Paragraphs: rec.Paragraphs})
		src := s.Source(k)
		_ = append(src.Doc.Sentences, -7)
		if !sameDoc(src, list[k]) {
			t.Errorf("lists of one answer share memory: %v", src)
		}
	}
	has(t, s, list)
	any := alike.Word{Any: true}
	at := s.Places(any, 0, 0, 9)
	clear(at)
	for _, h := range s.Hits(made(t, "dog", alike.Options{})) {
		clear(h.At[:cap(h.At)])
	}
	if got := s.Places(any, 0, 0, 9); !slices.Equal(got, []int{0, 1, 2, 3, 4, 5, 6}) {
		t.Error("what was told is kept:", got)
	}
	has(t, s, list)
}

func TestSegmentsByChanceP111(t *testing.T) {
	r := rand.New(rand.NewSource(111))
	for range 400 {
		list := random(t, r)
		has(t, built(t, list), list)
	}
}

func made(t *testing.T, w string, o alike.Options) alike.Word {
	t.Helper()
	x, e := alike.Make(w, o)
	if e != api.OK {
		t.Fatalf("Make of %q, %v: %v", w, o, e)
	}
	return x
}

func TestPlacesP112(t *testing.T) {
	type o = alike.Options
	s := built(t, []seg.Source{
		parsed(t, 1, "<a>x y x</a>"),
		parsed(t, 4, "<a>The Dog and dogs, <b>hunting</b> d\u00f6gs: hunt the dig dog</a>"), // the third one from 2 on: and dogs hunting dogs hunt the dig dog
		flat(9),
	})
	exact := o{Case: true, Marks: true}
	for _, x := range []struct {
		w           string
		o           alike.Options
		k, from, to int
		want        []int
	}{
		{"x", o{}, 0, 0, 3, []int{0, 2}},
		{"X", o{}, 0, 0, 3, []int{0, 2}},
		{"X", exact, 0, 0, 3, nil},
		{"y", exact, 0, 0, 3, []int{1}},
		{"dog", o{}, 0, 0, 3, nil}, // of another document
		{"x", o{}, 1, 0, 10, nil},
		{"dog", o{}, 1, 0, 10, []int{1, 9}},
		{"dog", exact, 1, 0, 10, []int{9}},
		{"Dog", exact, 1, 0, 10, []int{1}},
		{"dog", o{Stem: true}, 1, 0, 10, []int{1, 3, 5, 9}},
		{"dog", o{Stem: true, Marks: true}, 1, 0, 10, []int{1, 3, 9}},
		{"hunted", o{Stem: true}, 1, 0, 10, []int{4, 6}},
		{"d.g", o{Wild: true}, 1, 0, 10, []int{1, 8, 9}},
		{"d.*", o{Wild: true, Case: true, Marks: true}, 1, 0, 10, []int{3, 5, 8, 9}},
		{"d.*", o{Wild: true, Case: true, Marks: true}, 1, 4, 9, []int{5, 8}},
		{"dog.*", o{Wild: true, Case: true, Marks: true}, 1, 0, 10, []int{3, 9}},
		{"z.*", o{Wild: true, Case: true, Marks: true}, 1, 0, 10, nil},
		{".*", o{Wild: true}, 1, 0, 3, []int{0, 1, 2}},
		{"the", o{}, 1, 0, 10, []int{0, 7}},
		{"and", o{Stop: true}, 1, 0, 10, []int{0, 1, 2, 3, 4, 5, 6, 7, 8, 9}}, // any
		{"and", o{Stop: true}, 1, 3, 6, []int{3, 4, 5}},
		{"and", o{Stop: true}, 2, 0, 6, nil},
		{"and", o{Stop: true}, 3, 0, 6, nil},
		{"dog", o{}, 1, 1, 10, []int{1, 9}},
		{"dog", o{}, 1, 2, 10, []int{9}},
		{"dog", o{}, 1, 1, 9, []int{1}},
		{"dog", o{}, 1, 2, 9, nil},
		{"dog", o{}, 1, 1, 1, nil},
		{"dog", o{}, 1, 9, 1, nil},
		{"dog", o{}, 1, 10, 0, nil},
		{"dog", o{}, 1, math.MaxInt, math.MinInt, nil},
		{"dog", o{}, 1, math.MinInt, math.MaxInt, []int{1, 9}},
		{"and", o{Stop: true}, 1, math.MinInt, 2, []int{0, 1}},
		{"and", o{Stop: true}, 1, 8, math.MaxInt, []int{8, 9}},
		{"and", o{Stop: true}, 1, -3, -1, nil},
		{"and", o{Stop: true}, 1, -3, 0, nil},
		{"and", o{Stop: true}, 1, 10, 20, nil},
		{"and", o{Stop: true}, 1, 12, 20, nil},
		{"and", o{Stop: true}, 1, math.MaxInt, math.MaxInt, nil},
		{"dog", o{}, -1, 0, 10, nil},
		{"dog", o{}, 3, 0, 10, nil},
		{"and", o{Stop: true}, -1, 0, 10, nil},
		{"dog", o{}, math.MinInt, 0, 10, nil},
		{"dog", o{}, math.MaxInt, 0, 10, nil},
	} {
		if got := s.Places(made(t, x.w, x.o), x.k, x.from, x.to); !slices.Equal(got, x.want) {
			t.Errorf("Places of %q, %v, in %d from %d to %d: %v, not %v", x.w, x.o, x.k, x.from, x.to, got, x.want)
		}
	}
	if got := s.Places(alike.Word{Any: true}, 0, 0, 3); !slices.Equal(got, []int{0, 1, 2}) {
		t.Error("Places of any:", got)
	}
}

func TestHitsP112(t *testing.T) {
	type o = alike.Options
	s := built(t, []seg.Source{
		parsed(t, 30, "<a>dog Dogs x dog <b>dogs</b> DOG</a>"),
		parsed(t, 31, "<a>cat x</a>"),
		flat(90),
		parsed(t, 91, "<a>a cat: Dogs</a>"),
	})
	type hits = []post.Hit
	for _, x := range []struct {
		w    string
		o    alike.Options
		want hits
	}{
		{"dog", o{}, hits{{Doc: 0, At: []int{0, 3, 5}}}},
		{"dog", o{Case: true, Marks: true}, hits{{Doc: 0, At: []int{0, 3}}}},
		{"dog", o{Stem: true}, hits{{Doc: 0, At: []int{0, 1, 3, 4, 5}}, {Doc: 3, At: []int{2}}}},
		{".*o.*", o{Wild: true}, hits{{Doc: 0, At: []int{0, 1, 3, 4, 5}}, {Doc: 3, At: []int{2}}}},
		{"cat", o{}, hits{{Doc: 1, At: []int{0}}, {Doc: 3, At: []int{1}}}},
		{"x", o{}, hits{{Doc: 0, At: []int{2}}, {Doc: 1, At: []int{1}}}},
		{"a", o{}, hits{{Doc: 3, At: []int{0}}}},
		{"a", o{Stop: true}, nil},
		{"d", o{}, nil},
		{"dogsx", o{}, nil},
		{"z.*", o{Wild: true, Case: true, Marks: true}, nil},
		{".*", o{Wild: true}, hits{{Doc: 0, At: []int{0, 1, 2, 3, 4, 5}}, {Doc: 1, At: []int{0, 1}}, {Doc: 3, At: []int{0, 1, 2}}}},
	} {
		if got := s.Hits(made(t, x.w, x.o)); !sameHits(got, x.want) {
			t.Errorf("Hits of %q, %v: %v, not %v", x.w, x.o, got, x.want)
		}
	}
	if got := s.Hits(alike.Word{Any: true}); len(got) != 0 {
		t.Error("Hits of any:", got)
	}
}

func sameHits(a, b []post.Hit) bool {
	return slices.EqualFunc(a, b, func(x, y post.Hit) bool { return x.Doc == y.Doc && slices.Equal(x.At, y.At) })
}

func TestAllPlacesAndDocumentsP112(t *testing.T) {
	x := made(t, "x", alike.Options{})
	s := built(t, []seg.Source{flat(0, slices.Repeat([]string{"x"}, api.MaxText)...)})
	if at := s.Places(x, 0, 0, math.MaxInt); len(at) != api.MaxText || at[0] != 0 || at[api.MaxText-1] != api.MaxText-1 {
		t.Error(len(at), "places")
	}
	if at := s.Places(x, 0, api.MaxText-1, api.MaxText); !slices.Equal(at, []int{api.MaxText - 1}) {
		t.Error("the last place:", at)
	}
	s = built(t, many(1000))
	hits := s.Hits(made(t, "W6", alike.Options{}))
	if len(hits) != 142 {
		t.Error(len(hits), "hits")
	}
	for i, h := range hits {
		if h.Doc != 6+i*7 || !slices.Equal(h.At, []int{0}) {
			t.Fatal(i, h)
		}
	}
}

// question is a question's word by chance.
func question(t *testing.T, r *rand.Rand) alike.Word {
	t.Helper()
	i := r.Intn(32)
	o := alike.Options{Case: i&1 != 0, Marks: i&2 != 0, Stem: i&4 != 0, Stop: i&8 != 0, Wild: i&16 != 0}
	plain := []string{"dog", "Dog", "dogs", "d\u00f6gs", "the", "hunt", "hunted", "a", "b", "9", "cat", "\u00e9t\u00e9", "", "DOG"}
	wild := []string{"d.g", "d.*", "dog.?", ".*", ".+t.*", ".", "hunt.*", "z.*", ".{2,3}", "Dog.*"}
	w := plain[r.Intn(len(plain))]
	if o.Wild && r.Intn(4) > 0 {
		w = wild[r.Intn(len(wild))]
	}
	return made(t, w, o)
}

func TestPlacesWordByWordP112(t *testing.T) {
	r := rand.New(rand.NewSource(112))
	found, several := 0, 0
	for range 500 {
		list := random(t, r)
		s := built(t, list)
		for range 20 {
			x := question(t, r)
			var want []post.Hit
			for k, src := range list {
				var at []int
				from, to := r.Intn(12)-3, r.Intn(40)-3
				var within []int
				for place, w := range src.Doc.Words {
					if !x.Match(w) {
						continue
					}
					at = append(at, place)
					if place >= from && place < to {
						within = append(within, place)
					}
				}
				if got := s.Places(x, k, from, to); !slices.Equal(got, within) {
					t.Fatalf("%v: Places of %v in %d from %d to %d: %v, not %v", list, x, k, from, to, got, within)
				}
				if len(at) > 0 && !x.Any {
					want = append(want, post.Hit{Doc: k, At: at})
				}
				found += len(within)
			}
			if got := s.Hits(x); !sameHits(got, want) {
				t.Fatalf("%v: Hits of %v: %v, not %v", list, x, got, want)
			}
			if len(want) > 1 {
				several++
			}
		}
	}
	if found < 5000 || several < 500 {
		t.Error("only", found, "were found, in several documents", several)
	}
}
