package tree_test

import (
	"bytes"
	"math"
	"math/rand"
	"slices"
	"strings"
	"testing"

	"catchword/api"
	"catchword/tree"
	"catchword/vint"
	"catchword/xml"
)

// signs counts a text's bytes: a word each.
func signs(text string) int { return len(text) }

func parsed(t *testing.T, s string) []xml.Node {
	t.Helper()
	nodes, e := xml.Parse(s)
	if e != api.OK {
		t.Fatalf("Parse of %.200q: %v", s, e)
	}
	return nodes
}

func of(t *testing.T, s string) tree.Tree {
	t.Helper()
	return tree.Of(parsed(t, s), signs)
}

func TestOfP61(t *testing.T) {
	for s, want := range map[string][]tree.Elem{
		"<a/>":     {{Name: "a", Parent: -1, End: 1}},
		"<a>x</a>": {{Name: "a", Parent: -1, End: 1, To: 1}},
		"<a>x<b>yz</b></a>": {
			{Name: "a", Parent: -1, End: 2, To: 3}, {Name: "b", Level: 1, End: 2, From: 1, To: 3},
		},
		// Places are those among the elements, whatever texts stand between them.
		"<a>x<b>y<c>z</c>u<d/>v</b>w<b/>st<!---->r</a>": {
			{Name: "a", Parent: -1, End: 5, To: 9}, {Name: "b", Level: 1, End: 4, From: 1, To: 5}, {Name: "c", Parent: 1, Level: 2, End: 3, From: 2, To: 3},
			{Name: "d", Parent: 1, Level: 2, End: 4, From: 4, To: 4}, {Name: "b", Level: 1, End: 5, From: 6, To: 6},
		},
		"<a b='xyz'><!-- xyz --><?p xyz?><b/><b><b/></b><b>x</b></a>": {
			{Name: "a", Parent: -1, End: 5, To: 1}, {Name: "b", Level: 1, End: 2}, {Name: "b", Level: 1, End: 4}, {Name: "b", Parent: 2, Level: 2, End: 4}, {Name: "b", Level: 1, End: 5, To: 1},
		},
	} {
		if got := of(t, s); !slices.Equal(got.Elems, want) {
			t.Errorf("of %q: %v, not %v", s, got.Elems, want)
		}
	}
	if got := tree.Of(nil, signs); len(got.Elems) != 0 {
		t.Error("of no nodes:", got)
	}
}

func TestOfAsksCountP61(t *testing.T) {
	counts := map[string]int{"none": 0, "below": -1, "far below": math.MinInt, "two": 2, "many": 1000000}
	nodes := parsed(t, "<a>below<b>two</b>far below<c>none<d>below</d></c>two<e>many<f>far below</f>two</e>below</a>")
	got := tree.Of(nodes, func(text string) int {
		n, ok := counts[text]
		if !ok {
			t.Errorf("%q is no text", text)
		}
		return n
	})
	want := []tree.Elem{
		{Name: "a", Parent: -1, End: 6, To: 1000006}, {Name: "b", Level: 1, End: 2, To: 2}, {Name: "c", Level: 1, End: 4, From: 2, To: 2},
		{Name: "d", Parent: 2, Level: 2, End: 4, From: 2, To: 2}, {Name: "e", Level: 1, End: 6, From: 4, To: 1000006}, {Name: "f", Parent: 4, Level: 2, End: 6, From: 1000004, To: 1000004},
	}
	if !slices.Equal(got.Elems, want) {
		t.Errorf("%v, not %v", got.Elems, want)
	}
}

// document is a random document.
func document(random *rand.Rand, level int) string {
	name := []string{"a", "b", "c"}[random.Intn(3)]
	s := "<" + name + ">"
	for range random.Intn(5) {
		if level < 5 && random.Intn(3) > 0 {
			s += document(random, level+1)
		} else {
			s += []string{"", "x", "yz", "u<?p?>v"}[random.Intn(4)]
		}
	}
	return s + "</" + name + ">"
}

// inside tells whether a node is in another one, by the parents.
func inside(nodes []xml.Node, at, other int) bool {
	for at >= 0 && at != other {
		at = nodes[at].Parent
	}
	return at == other
}

// expected is the elements of nodes, each worked out by itself.
func expected(nodes []xml.Node) []tree.Elem {
	elements := func(holds func(i int) bool) int {
		n := 0
		for i := range nodes {
			if nodes[i].Name != "" && holds(i) {
				n++
			}
		}
		return n
	}
	var all []tree.Elem
	for at, node := range nodes {
		if node.Name == "" {
			continue
		}
		e := tree.Elem{Name: node.Name, Parent: -1, Level: node.Level}
		if node.Parent >= 0 {
			e.Parent = elements(func(i int) bool { return i < node.Parent })
		}
		e.End = elements(func(i int) bool { return i < at || inside(nodes, i, at) })
		for i := range nodes {
			if i < at {
				e.From += len(nodes[i].Text)
			} else if inside(nodes, i, at) {
				e.To += len(nodes[i].Text)
			}
		}
		e.To += e.From
		all = append(all, e)
	}
	return all
}

func TestOfDocumentsP61P62P63P64(t *testing.T) {
	random := rand.New(rand.NewSource(6))
	for range 500 {
		s := document(random, 0)
		nodes := parsed(t, s)
		got := tree.Of(nodes, signs)
		if want := expected(nodes); !slices.Equal(got.Elems, want) {
			t.Fatalf("of %q: %v, not %v", s, got.Elems, want)
		}
		words := got.Elems[0].To
		if !got.Right(words) || got.Right(words+1) || got.Right(words-1) {
			t.Fatalf("of %q: whether %v is right", s, got)
		}
		walks(t, got)
		again(t, got)
	}
}

func TestOfOthersP61(t *testing.T) {
	for _, end := range []int{math.MinInt, -1, 0, 1, 2, 3, 9, math.MaxInt} {
		for _, parent := range []int{math.MinInt, -2, -1, 0, 1, 2, 3, 9, math.MaxInt} {
			n := xml.Node{Name: "a", Parent: parent, End: end}
			text := xml.Node{Text: "x", Parent: parent, End: end}
			for _, nodes := range [][]xml.Node{{n}, {text}, {{}}, {n, text}, {text, n}, {n, n, {}, text}} {
				elements := 0
				for _, m := range nodes {
					if m.Name != "" {
						elements++
					}
				}
				if got := tree.Of(nodes, signs); len(got.Elems) != elements {
					t.Errorf("of %v: %v", nodes, got)
				}
			}
		}
	}
}

// isRight is whether elements are a tree, word by word as it is asked for.
func isRight(elems []tree.Elem, words int) bool {
	size := len(elems)
	if size < 1 || size > 16384 {
		return false
	}
	if f := elems[0]; f.Parent != -1 || f.Level != 0 || f.End != size || f.From != 0 || f.To != words {
		return false
	}
	for i, e := range elems {
		if e.Name == "" || e.End <= i || e.End > size || e.From > e.To || e.Level > 100 {
			return false
		}
	}
	for later := range elems {
		parent := -1
		for earlier := range later {
			l, e := elems[later], elems[earlier]
			if later < e.End {
				parent = earlier
				if l.End > e.End || l.From < e.From || l.From > e.To || l.To < e.From || l.To > e.To {
					return false
				}
			} else if l.From < e.To {
				return false
			}
		}
		if later > 0 && (elems[later].Parent != parent || elems[later].Level != elems[parent].Level+1) {
			return false
		}
	}
	return true
}

// sample is a right tree of 9 words: <a>.<b>.<c>.</c><d>..</d></b><e/>..<f>..</f></a>, a word each dot.
func sample() []tree.Elem {
	return []tree.Elem{
		{Name: "a", Parent: -1, Level: 0, End: 6, From: 0, To: 9},
		{Name: "b", Parent: 0, Level: 1, End: 4, From: 1, To: 5},
		{Name: "c", Parent: 1, Level: 2, End: 3, From: 2, To: 3},
		{Name: "d", Parent: 1, Level: 2, End: 4, From: 3, To: 5},
		{Name: "e", Parent: 0, Level: 1, End: 5, From: 5, To: 5},
		{Name: "f", Parent: 0, Level: 1, End: 6, From: 7, To: 9},
	}
}

func right(elems []tree.Elem, words int) bool { return tree.Tree{Elems: elems}.Right(words) }

func TestRightP62(t *testing.T) {
	if !right(sample(), 9) || !isRight(sample(), 9) {
		t.Fatal("the sample isn't right")
	}
	for _, words := range []int{math.MinInt, -9, -1, 0, 8, 10, math.MaxInt} {
		if right(sample(), words) {
			t.Errorf("the sample is right of %d words", words)
		}
	}
	one := []tree.Elem{{Name: "a", Parent: -1, End: 1}}
	if !right(one, 0) || right(one, 1) || right(one, -1) {
		t.Error("one element without words")
	}
	one[0].To = -1
	if right(one, -1) || right(one, 0) {
		t.Error("one element of fewer words than none")
	}
	one[0].To = math.MaxInt
	if !right(one, math.MaxInt) {
		t.Error("one element of as many words as can be")
	}
	if right(nil, 0) || right([]tree.Elem{}, 0) {
		t.Error("no elements")
	}
}

func TestRightOfOtherFieldsP62(t *testing.T) {
	for what, change := range map[string]func(e []tree.Elem){
		"the first one's Parent":       func(e []tree.Elem) { e[0].Parent = 0 },
		"the first one's far Parent":   func(e []tree.Elem) { e[0].Parent = -2 },
		"the first one's Level":        func(e []tree.Elem) { e[0].Level = 1 },
		"the first one's Level, below": func(e []tree.Elem) { e[0].Level = -1 },
		"all Levels": func(e []tree.Elem) {
			for i := range e {
				e[i].Level++
			}
		},
		"the first one's End ahead":         func(e []tree.Elem) { e[0].End = 5 },
		"the first one's End behind":        func(e []tree.Elem) { e[0].End = 7 },
		"the first one's From":              func(e []tree.Elem) { e[0].From = 1 },
		"the first one's From, below":       func(e []tree.Elem) { e[0].From = -1 },
		"the first one's To ahead":          func(e []tree.Elem) { e[0].To = 8 },
		"the first one's To behind":         func(e []tree.Elem) { e[0].To = 10 },
		"the first one's Name":              func(e []tree.Elem) { e[0].Name = "" },
		"a Name":                            func(e []tree.Elem) { e[2].Name = "" },
		"the last one's Name":               func(e []tree.Elem) { e[5].Name = "" },
		"an End at it":                      func(e []tree.Elem) { e[2].End = 2 },
		"an End ahead of it":                func(e []tree.Elem) { e[2].End = 1 },
		"an End of none":                    func(e []tree.Elem) { e[5].End = 0 },
		"an End below 0":                    func(e []tree.Elem) { e[5].End = -1 },
		"an End behind all":                 func(e []tree.Elem) { e[5].End = 7 },
		"an End far behind":                 func(e []tree.Elem) { e[5].End = math.MaxInt },
		"an End behind the Parent's":        func(e []tree.Elem) { e[3].End = 5 },
		"an End behind the next one":        func(e []tree.Elem) { e[2].End = 4 },
		"an End that leaves one out":        func(e []tree.Elem) { e[1].End = 3 },
		"a From above To":                   func(e []tree.Elem) { e[2].From = 4 },
		"a From above To, of no words":      func(e []tree.Elem) { e[4].From = 6 },
		"a From below the Parent's":         func(e []tree.Elem) { e[2].From = 0 },
		"a From below the earlier one's To": func(e []tree.Elem) { e[3].From = 2 },
		"a From within an earlier one":      func(e []tree.Elem) { e[5].From = 4 },
		"a From below 0":                    func(e []tree.Elem) { e[1].From = -1 },
		"a From and To ahead":               func(e []tree.Elem) { e[4].From, e[4].To = 0, 0 },
		"a From and To within another one":  func(e []tree.Elem) { e[4].From, e[4].To = 4, 4 },
		"a To behind the Parent's":          func(e []tree.Elem) { e[3].To = 6 },
		"a To behind all":                   func(e []tree.Elem) { e[5].To = 10 },
		"a To within the next one":          func(e []tree.Elem) { e[2].To = 4 },
		"a To behind the next one's From":   func(e []tree.Elem) { e[4].To = 8 },
		"a Parent around":                   func(e []tree.Elem) { e[2].Parent = 0 },
		"a Parent beside":                   func(e []tree.Elem) { e[3].Parent = 2 },
		"a Parent that has ended":           func(e []tree.Elem) { e[5].Parent = 1 },
		"itself as the Parent":              func(e []tree.Elem) { e[3].Parent = 3 },
		"a later Parent":                    func(e []tree.Elem) { e[1].Parent = 2 },
		"no Parent":                         func(e []tree.Elem) { e[1].Parent = -1 },
		"a far Parent":                      func(e []tree.Elem) { e[1].Parent = math.MaxInt },
		"the Parent's Level":                func(e []tree.Elem) { e[2].Level = 1 },
		"a Level too deep":                  func(e []tree.Elem) { e[1].Level = 2 },
		"a Level of 0":                      func(e []tree.Elem) { e[5].Level = 0 },
		"a Level below 0":                   func(e []tree.Elem) { e[5].Level = -1 },
		"a Level of the one beside":         func(e []tree.Elem) { e[4].Level = 2 },
		"the Level and Parent of the one beside": func(e []tree.Elem) {
			e[4].Parent, e[4].Level = e[3].Parent, e[3].Level
		},
		"a Level far off": func(e []tree.Elem) { e[5].Level = math.MinInt },
	} {
		elems := sample()
		change(elems)
		if right(elems, 9) || isRight(elems, 9) {
			t.Errorf("right, for all %s", what)
		}
	}
}

// chain is elements each in the one ahead of it.
func chain(size int) []tree.Elem {
	var elems []tree.Elem
	for i := range size {
		elems = append(elems, tree.Elem{Name: "a", Parent: i - 1, Level: i, End: size, To: 7})
	}
	return elems
}

// row is an element with all others directly in it.
func row(size int) []tree.Elem {
	elems := []tree.Elem{{Name: "a", Parent: -1, End: size, To: size - 1}}
	for i := 1; i < size; i++ {
		elems = append(elems, tree.Elem{Name: "b", Level: 1, End: i + 1, From: i - 1, To: i})
	}
	return elems
}

func TestRightAtLimitsP62(t *testing.T) {
	if api.MaxDepth != 100 || api.MaxNodes != 16384 {
		t.Error("the limits are", api.MaxDepth, api.MaxNodes)
	}
	if !right(chain(100), 7) || !right(chain(101), 7) { // the last one's Level is 100
		t.Error("chains up to Level 100")
	}
	if right(chain(102), 7) || right(chain(16384), 7) {
		t.Error("chains from Level 101 on")
	}
	if !right(row(2), 1) || !right(row(16383), 16382) || !right(row(16384), 16383) {
		t.Error("rows of up to 16384 elements")
	}
	if right(row(16385), 16384) || right(row(40000), 39999) {
		t.Error("rows of more than 16384 elements")
	}
	overlapping := row(16384)
	overlapping[16383].From = 16381
	if right(overlapping, 16383) {
		t.Error("the last one of many overlaps the one ahead")
	}
	if right(chain(101), 8) || right(row(16384), 16382) {
		t.Error("of other words")
	}
}

func TestRightOfSmallTreesP62(t *testing.T) {
	var others []tree.Elem
	for parent := -1; parent <= 2; parent++ {
		for level := range 4 {
			for end := range 5 {
				for from := -1; from <= 2; from++ {
					for to := range 4 {
						others = append(others, tree.Elem{Name: "b", Parent: parent, Level: level, End: end, From: from, To: to})
					}
				}
			}
		}
	}
	rights := 0
	for _, second := range others {
		for _, third := range others {
			elems := []tree.Elem{{Name: "a", Parent: -1, End: 3, To: 2}, second, third}
			want := isRight(elems, 2)
			if want {
				rights++
			}
			if right(elems, 2) != want {
				t.Fatalf("whether %v is right: not %v", elems, want)
			}
		}
	}
	if rights != 30 { // two beside each other: 15 ways to lay 4 rising numbers within 0 to 2; one in the other: 15 as well
		t.Error("so many are right:", rights)
	}
}

func TestRightOfChangedTreesP62(t *testing.T) {
	random := rand.New(rand.NewSource(62))
	rights, wrongs := 0, 0
	for range 20000 {
		elems := of(t, document(random, 0)).Elems
		words := elems[0].To
		for range 1 + random.Intn(3) {
			e := &elems[random.Intn(len(elems))]
			by := random.Intn(5) - 2
			*[]*int{&e.Parent, &e.Level, &e.End, &e.From, &e.To}[random.Intn(5)] += by
		}
		want := isRight(elems, words)
		if want {
			rights++
		} else {
			wrongs++
		}
		before := slices.Clone(elems)
		if right(elems, words) != want {
			t.Fatalf("whether %v is right: not %v", elems, want)
		}
		if !slices.Equal(before, elems) {
			t.Fatal("Right has changed its tree")
		}
	}
	if rights < 2000 || wrongs < 2000 {
		t.Error("too few were right or wrong:", rights, wrongs)
	}
}

func TestKidsP63(t *testing.T) {
	a := of(t, "<a><b><b/><c><b/></c></b><c/><b/><a/></a>")
	// 0 a, 1 b, 2 b, 3 c, 4 b, 5 c, 6 b, 7 a
	for _, w := range []struct {
		at          int
		name        string
		kids, below []int
	}{
		{0, "*", []int{1, 5, 6, 7}, []int{1, 2, 3, 4, 5, 6, 7}},
		{0, "b", []int{1, 6}, []int{1, 2, 4, 6}},
		{0, "c", []int{5}, []int{3, 5}},
		{0, "a", []int{7}, []int{7}},
		{0, "d", nil, nil},
		{0, "", nil, nil},
		{0, "B", nil, nil},
		{0, "**", nil, nil},
		{1, "*", []int{2, 3}, []int{2, 3, 4}},
		{1, "b", []int{2}, []int{2, 4}},
		{1, "c", []int{3}, []int{3}},
		{1, "a", nil, nil},
		{3, "b", []int{4}, []int{4}},
		{3, "c", nil, nil},
		{2, "*", nil, nil},
		{4, "*", nil, nil},
		{5, "*", nil, nil},
		{7, "*", nil, nil},
		{7, "a", nil, nil},
		{-1, "*", []int{0}, []int{0, 1, 2, 3, 4, 5, 6, 7}},
		{-1, "a", []int{0}, []int{0, 7}},
		{-1, "b", nil, []int{1, 2, 4, 6}},
		{-1, "", nil, nil},
		{-2, "*", []int{0}, []int{0, 1, 2, 3, 4, 5, 6, 7}},
		{math.MinInt, "a", []int{0}, []int{0, 7}},
		{8, "*", nil, nil},
		{9, "a", nil, nil},
		{math.MaxInt, "*", nil, nil},
	} {
		if got := a.Kids(w.at, w.name); !slices.Equal(got, w.kids) {
			t.Errorf("Kids of %d by %q: %v", w.at, w.name, got)
		}
		if got := a.Below(w.at, w.name); !slices.Equal(got, w.below) {
			t.Errorf("Below %d by %q: %v", w.at, w.name, got)
		}
	}
	for _, at := range []int{math.MinInt, -1, 0, 1, math.MaxInt} {
		if got := (tree.Tree{}); len(got.Kids(at, "*")) != 0 || len(got.Below(at, "*")) != 0 {
			t.Errorf("of no elements, at %d", at)
		}
	}
}

// walks checks Kids and Below of a right tree by its parents alone.
func walks(t *testing.T, a tree.Tree) {
	t.Helper()
	for at := range a.Elems {
		for _, name := range []string{"a", "b", "*"} {
			var kids, below []int
			for i, e := range a.Elems {
				if name != "*" && name != e.Name {
					continue
				}
				if e.Parent == at {
					kids = append(kids, i)
				}
				for up := e.Parent; up >= 0; up = a.Elems[up].Parent {
					if up == at {
						below = append(below, i)
					}
				}
			}
			if !slices.Equal(a.Kids(at, name), kids) || !slices.Equal(a.Below(at, name), below) {
				t.Fatalf("from %d by %q in %v: %v, %v, not %v, %v", at, name, a, a.Kids(at, name), a.Below(at, name), kids, below)
			}
		}
	}
}

func TestKidsOfOthersP63(t *testing.T) {
	for _, n := range []int{math.MinInt, -2, -1, 0, 1, 2, 3, 4, math.MaxInt} {
		e := tree.Elem{Name: "a", Parent: n, Level: n, End: n, From: n, To: n}
		a := tree.Tree{Elems: []tree.Elem{e, e, {}, e}}
		for _, at := range []int{math.MinInt, -1, 0, 1, 2, 3, 4, math.MaxInt} {
			for _, list := range [][]int{a.Kids(at, "*"), a.Below(at, "*"), a.Kids(at, ""), a.Below(at, "")} {
				if !slices.IsSorted(list) || len(list) > 4 {
					t.Errorf("from %d in %v: %v", at, a, list)
				}
			}
		}
	}
}

func TestKidsOfNoElementP63(t *testing.T) {
	a := tree.Tree{Elems: []tree.Elem{{Name: "a", Parent: -1, End: 9}, {Name: "b", Parent: 2, End: 9}, {Name: "b", Parent: 3, End: 9}}}
	for _, at := range []int{3, 4, math.MaxInt} {
		if kids, below := a.Kids(at, "*"), a.Below(at, "*"); len(kids) != 0 || len(below) != 0 {
			t.Errorf("from %d: %v, %v", at, kids, below)
		}
	}
}

func TestUnionP63(t *testing.T) {
	for _, u := range []struct {
		lists [][]int
		want  []int
	}{
		{nil, nil},
		{[][]int{nil}, nil},
		{[][]int{{}, nil, {}}, nil},
		{[][]int{{1}}, []int{1}},
		{[][]int{{1, 2, 3}, nil}, []int{1, 2, 3}},
		{[][]int{{}, {2}, {1}}, []int{1, 2}},
		{[][]int{{1, 3, 5}, {2, 3, 4}, {3}}, []int{1, 2, 3, 4, 5}},
		{[][]int{{7, 7}, {7}}, []int{7}},
		{[][]int{{3, 1, 2, 1}, {9, 0}}, []int{0, 1, 2, 3, 9}},
		{[][]int{{math.MaxInt, -1}, {math.MinInt, 0, math.MaxInt}}, []int{math.MinInt, -1, 0, math.MaxInt}},
	} {
		if got := tree.Union(u.lists...); !slices.Equal(got, u.want) {
			t.Errorf("Union of %v: %v", u.lists, got)
		}
	}
	random := rand.New(rand.NewSource(63))
	for range 500 {
		var lists [][]int
		has := map[int]bool{}
		for range random.Intn(6) {
			var list []int
			for range random.Intn(6) {
				n := random.Intn(12)
				list, has[n] = append(list, n), true
			}
			lists = append(lists, list)
		}
		got := tree.Union(lists...)
		if len(got) != len(has) {
			t.Fatalf("Union of %v: %v", lists, got)
		}
		for i, n := range got {
			if !has[n] || i > 0 && got[i-1] >= n {
				t.Fatalf("Union of %v: %v", lists, got)
			}
		}
	}
}

func TestAnswersAreNewP63(t *testing.T) {
	one, two := []int{3, 1, 1, 2}, []int{9, 1}
	for _, got := range [][]int{tree.Union(one), tree.Union(one, nil), tree.Union(nil, one, two)} {
		for i := range got {
			got[i] = 77
		}
		_ = append(got[:0], 78, 78)
	}
	if !slices.Equal(one, []int{3, 1, 1, 2}) || !slices.Equal(two, []int{9, 1}) {
		t.Error("Union has changed its lists, or shares them:", one, two)
	}
	nodes := parsed(t, "<a><b/>x</a>")
	a := tree.Of(nodes, signs)
	a.Elems[0].Name = "changed"
	a.Kids(0, "*")[0] = 77
	a.Below(-1, "*")[0] = 77
	if nodes[0].Name != "a" || !slices.Equal(a.Kids(0, "*"), []int{1}) || !slices.Equal(a.Below(-1, "*"), []int{0, 1}) {
		t.Error("answers share something")
	}
}

func TestEncodeP64(t *testing.T) {
	for _, w := range []struct {
		elems []tree.Elem
		want  string
	}{
		{nil, "\x00"},
		{[]tree.Elem{{}}, "\x01\x00\x01\x00\x00\x00\x00"},
		{[]tree.Elem{{Name: "a", Parent: -1, Level: 0, End: 1, From: 0, To: 0}}, "\x01\x01a\x00\x00\x01\x00\x00"},
		{[]tree.Elem{{Name: "ab", Parent: 1, Level: 3, End: 4, From: 5, To: 6}}, "\x01\x02ab\x02\x03\x04\x05\x06"},
		{[]tree.Elem{{Name: "é", Parent: 127, Level: 128, End: 300, From: 16383, To: 16384}}, "\x01\x02é\x81\x00\x81\x00\x82\x2c\xff\x7f\x81\x80\x00"},
		{[]tree.Elem{{Name: "a", Parent: -2, Level: -1, End: -1, From: -2, To: -300}}, "\x01\x01a\x00\x00\x00\x00\x00"},
		{[]tree.Elem{{Name: "\xff\x00", Parent: math.MinInt, Level: math.MinInt, End: math.MinInt, From: math.MinInt, To: math.MinInt}}, "\x01\x02\xff\x00\x00\x00\x00\x00\x00"},
		{[]tree.Elem{{Parent: math.MaxInt, Level: math.MaxInt, To: math.MaxInt}}, "\x01\x00\x81\x80\x80\x80\x80\x80\x80\x80\x80\x00\xff\xff\xff\xff\xff\xff\xff\xff\x7f\x00\x00\xff\xff\xff\xff\xff\xff\xff\xff\x7f"},
		{[]tree.Elem{{Name: "a", Parent: -1, End: 2, To: 3}, {Name: "b", Level: 1, End: 2, From: 1, To: 3}}, "\x02\x01a\x00\x00\x02\x00\x03\x01b\x01\x01\x02\x01\x03"},
	} {
		a := tree.Tree{Elems: w.elems}
		if got := string(a.Encode(nil)); got != w.want {
			t.Errorf("Encode of %v: %x, not %x", w.elems, got, w.want)
		}
		if got := string(a.Encode([]byte("xyz"))); got != "xyz"+w.want {
			t.Errorf("Encode of %v behind xyz: %x", w.elems, got)
		}
	}
}

// again checks that a tree is read as it was laid, and nothing behind it.
func again(t *testing.T, a tree.Tree) {
	t.Helper()
	b := a.Encode(nil)
	for _, behind := range []string{"", "\x00", "\xff\xff"} {
		r := vint.Read(append(bytes.Clone(b), behind...))
		if got := tree.Decode(r); !slices.Equal(got.Elems, a.Elems) || r.Err() != api.OK || r.Left() != len(behind) {
			t.Fatalf("of %.200v: %.200v, %v, %d bytes left", a, got, r.Err(), r.Left())
		}
	}
}

func TestDecodeP64(t *testing.T) {
	for _, elems := range [][]tree.Elem{
		nil, sample(), chain(101), row(16384), {{}}, {{Name: "*"}}, {{Name: "\xff\x00"}, {Name: "é"}},
		// Decode asks for the limits alone, not for a tree that is right.
		{{Parent: 16383, Level: 100, End: 16384, From: 65536, To: 65536}, {Parent: -1, From: 9, To: 8}},
		{{Name: strings.Repeat("x", 65536)}},
	} {
		again(t, tree.Tree{Elems: elems})
	}
}

// refused checks that a reader of bytes tells no elements, and an error.
func refused(t *testing.T, what string, b []byte) {
	t.Helper()
	r := vint.Read(b)
	if got := tree.Decode(r); len(got.Elems) != 0 || r.Err() != api.ErrForm {
		t.Errorf("%s: %d elements, %v", what, len(got.Elems), r.Err())
	}
}

func TestDecodeAboveLimitsP64(t *testing.T) {
	if api.MaxText != 65536 {
		t.Error("MaxText is", api.MaxText)
	}
	for what, e := range map[string]tree.Elem{
		"a Name of 65537 bytes": {Name: strings.Repeat("x", 65537)},
		"a Parent of 16384":     {Parent: 16384},
		"a Level of 101":        {Level: 101},
		"an End of 16385":       {End: 16385},
		"a From of 65537":       {From: 65537},
		"a To of 65537":         {To: 65537},
		"a far Parent":          {Parent: math.MaxInt},
		"a far To":              {To: math.MaxInt},
	} {
		fine := tree.Elem{Name: "a"}
		for _, elems := range [][]tree.Elem{{e}, {e, fine}, {fine, e}, {fine, fine, e, fine}} {
			refused(t, what, tree.Tree{Elems: elems}.Encode(nil))
		}
	}
	many := slices.Repeat([]tree.Elem{{Name: "a"}}, 16385)
	again(t, tree.Tree{Elems: many[:16384]})
	refused(t, "16385 elements", tree.Tree{Elems: many}.Encode(nil))
	refused(t, "far more elements", vint.Put(nil, math.MaxUint64))
	refused(t, "as many elements as can be, and no bytes", vint.Put(nil, 16384))
}

func TestDecodeOfCutBytesP64(t *testing.T) {
	elems := append(sample(), tree.Elem{Name: strings.Repeat("n", 300), Parent: 300, Level: 99, End: 300, From: 300, To: 65536})
	b := tree.Tree{Elems: elems}.Encode(nil)
	for i := range b {
		refused(t, "cut off", b[:i])
	}
	refused(t, "a count in a second form", []byte("\x80\x01\x01a\x00\x00\x01\x00\x00"))
	refused(t, "a Parent in a second form", []byte("\x01\x01a\x80\x00\x00\x01\x00\x00"))
}

func TestDecodeBehindAnErrorP64(t *testing.T) {
	r := vint.Read(append([]byte{5}, tree.Tree{Elems: sample()}.Encode(nil)...))
	r.Num(4)
	if got := tree.Decode(r); len(got.Elems) != 0 || r.Err() != api.ErrForm {
		t.Error("behind an error:", got, r.Err())
	}
	if got := tree.Decode(nil); len(got.Elems) != 0 {
		t.Error("of no reader:", got)
	}
	two := tree.Tree{Elems: sample()}
	r = vint.Read(two.Encode(two.Encode(nil)))
	if first, second := tree.Decode(r), tree.Decode(r); !slices.Equal(first.Elems, second.Elems) || len(first.Elems) != 6 || r.End() != api.OK {
		t.Error("two, one behind the other:", first, second, r.End())
	}
}

func TestDecodeOfAnyBytesP64(t *testing.T) {
	random := rand.New(rand.NewSource(64))
	for range 20000 {
		b := tree.Tree{Elems: sample()}.Encode(nil)
		for range 1 + random.Intn(3) {
			b[random.Intn(len(b))] = byte(random.Intn(256))
		}
		r := vint.Read(b)
		got := tree.Decode(r)
		if r.Err() != api.OK {
			if len(got.Elems) != 0 {
				t.Fatalf("of %x: %v beside %v", b, got, r.Err())
			}
		} else if laid := got.Encode(nil); !bytes.Equal(laid, b[:len(b)-r.Left()]) {
			t.Fatalf("of %x: laid as %x", b, laid)
		}
	}
}
