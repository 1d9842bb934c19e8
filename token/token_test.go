package token_test

import (
	"math"
	"math/rand"
	"regexp"
	"slices"
	"strings"
	"testing"

	"catchword/api"
	"catchword/token"
	"catchword/utf"
	"catchword/xml"
)

func TestSplitP71(t *testing.T) {
	for s, want := range map[string]string{ // the words, with a space between
		"":                             "",
		" ":                            "",
		".":                            "",
		"\n\n":                         "",
		"a":                            "a",
		"The cat. It sat!":             "The cat It sat",
		" a ":                          "a",
		"a-b c3, d":                    "a b c3 d",
		"don't":                        "don t",
		"3.14 a_b":                     "3 14 a b",
		"R\u00e9sum\u00e9s na\u00efve": "R\u00e9sum\u00e9s na\u00efve",
		"\u65e5\u672c\u8a9e\u3002x":    "\u65e5\u672c\u8a9e x",
		"\u00aa\u00b5\u00ba\u00bb":     "\u00aa\u00b5\u00ba",
		"a\u00d7b\u00f7c\u2013d":       "a b c d",
		"a\u00a0b\u3000c":              "a b c",
		"\U0001f600":                   "\U0001f600",
		"a\x00b":                       "a b",
		"A\u0301":                      "A\u0301",
	} {
		if got := strings.Join(token.Split(s).Words, " "); got != want {
			t.Errorf("the words of %q: %q, not %q", s, got, want)
		}
	}
}

func TestSplitOfNoSignsP71(t *testing.T) {
	for s, want := range map[string]string{
		"\xff":                     "",
		"\xff\xfe\x80":             "",
		"a\xffb":                   "a b",
		"\xffa\xff":                "a",
		"a\xc3":                    "a",
		"a\xc3b":                   "a b",
		"a\xc3\xc3\xa9b":           "a \u00e9b",
		"\xe2\x82a":                "a",
		"\xed\xa0\x80x":            "x",
		"\xc1\xa1x":                "x",
		"\xf4\x90\x80\x80x":        "x",
		"\xc3\xa9\xa9\xc3\xa9":     "\u00e9 \u00e9",
		"\xf0\x9f\x98\x80\xf0\x9f": "\U0001f600",
		"a\xef\xbf\xbdb":           "a\ufffdb", // the sign by the number that the library tells of wrong bytes
	} {
		got := token.Split(s)
		if words := strings.Join(got.Words, " "); words != want || len(got.Sentences)+len(got.Paragraphs) != 0 {
			t.Errorf("the words of %q: %q, not %q; %v", s, words, want, got)
		}
	}
}

func TestSplitOfLongWordsP71(t *testing.T) {
	x := func(n int) string { return strings.Repeat("x", n) }
	if token.MaxWord != 80 {
		t.Error("MaxWord is", token.MaxWord)
	}
	for _, w := range []struct{ s, want string }{
		{x(79), x(79)},
		{x(80), x(80)},
		{x(81), x(80)},
		{x(65536), x(80)},
		{x(80) + "\u00e9", x(80)},
		{x(78) + "\u00e9", x(78) + "\u00e9"},
		{x(79) + "\u00e9", x(79)},
		// What doesn't fit ends the word, even if what follows would.
		{x(79) + "\u00e9y", x(79)},
		{x(77) + "\u672c", x(77) + "\u672c"},
		{x(78) + "\u672cyz", x(78)},
		{x(79) + "\u672cy", x(79)},
		{x(76) + "\U0001f600", x(76) + "\U0001f600"},
		{x(77) + "\U0001f600yz", x(77)},
		{x(79) + "\U0001f600y", x(79)},
		{x(76) + "\U0001f600y", x(76) + "\U0001f600"},
		{strings.Repeat("\u00e9", 41), strings.Repeat("\u00e9", 40)},
		{strings.Repeat("\u672c", 100), strings.Repeat("\u672c", 26)},
		{strings.Repeat("\U0001f600", 21), strings.Repeat("\U0001f600", 20)},
	} {
		for ahead, behind := range map[string]string{"": "", " ": " ", "\xff": "\xff", "..": "\n\n", "\u2013": "\u00d7"} {
			if got := token.Split(ahead + w.s + behind); !slices.Equal(got.Words, []string{w.want}) {
				t.Errorf("the words of %q: %q", w.s, got.Words)
			}
		}
		got := token.Split("a " + w.s + ". " + w.s + "\n\nb" + w.s)
		if len(got.Words) != 4 || got.Words[0] != "a" || got.Words[1] != w.want || got.Words[2] != w.want || got.Words[3][0] != 'b' ||
			!slices.Equal(got.Sentences, []int{2, 3}) || !slices.Equal(got.Paragraphs, []int{3}) {
			t.Errorf("of %q: %v", w.s, got)
		}
	}
}

func TestSentencesP71(t *testing.T) {
	for s, want := range map[string][2][]int{
		"The cat. It sat!":         {{2}, nil},
		"a b":                      {nil, nil},
		"a.b":                      {{1}, nil},
		"a!b?c.d":                  {{1, 2, 3}, nil},
		"a ... b":                  {{1}, nil},
		"a?! b":                    {{1}, nil},
		"a, (.) b":                 {{1}, nil},
		".a!b":                     {{1}, nil},
		"a b.":                     {nil, nil},
		"a b!?.\n\n":               {nil, nil},
		"...!?\n\na b":             {nil, nil},
		"\n\na\n\n":                {nil, nil},
		"a,;:b":                    {nil, nil},
		"a\u3002b\u2026c\u00bfd":   {nil, nil},
		"a\nb":                     {nil, nil},
		"a\r\rb":                   {nil, nil},
		"a\n\nb":                   {{1}, {1}},
		"a\n\n\n\nb":               {{1}, {1}},
		"a\n \t\r\nb":              {{1}, {1}},
		"a\r\n\r\nb":               {{1}, {1}},
		"a \t\n\n b":               {{1}, {1}},
		"a\n,\nb":                  {nil, nil},
		"a\n.\nb":                  {{1}, nil},
		"a\n\xff\nb":               {nil, nil},
		"a\n\x00\nb":               {nil, nil},
		"a\n\u00a0\nb":             {nil, nil},
		"a\n\u2028\nb":             {nil, nil},
		"a\n\v\nb":                 {nil, nil},
		"a\n\f\nb":                 {nil, nil},
		"a\n,\n\nb":                {{1}, {1}},
		"a\n\n,b":                  {{1}, {1}},
		"a,\n\nb":                  {{1}, {1}},
		"a\n,\n,\nb":               {nil, nil},
		"a\n,\n,\n \nb":            {{1}, {1}},
		"a.\n\n!b":                 {{1}, {1}},
		"a\nb\nc":                  {nil, nil},
		"a b\n\nc d. e\n\nf g? h.": {{2, 4, 5, 7}, {2, 5}},
		"\n a \n b":                {nil, nil},
		"a-b c3, d\n\ne. F?\n g":   {{4, 5, 6}, {4}},
	} {
		got := token.Split(s)
		if !slices.Equal(got.Sentences, want[0]) || !slices.Equal(got.Paragraphs, want[1]) {
			t.Errorf("of %q: %v", s, got)
		}
	}
}

var (
	twoNewlines = regexp.MustCompile(`\n[ \t\r]*\n`)
	endMark     = regexp.MustCompile(`[.!?]`)
)

// expected is a text taken apart by expressions: with a sign \x01 around each word, which must not stand in the text itself.
func expected(s string) token.Text {
	marked, inWord := "", false
	for i, sign := range s {
		size := len(string(sign))
		letter := utf.Letter(sign)
		if sign == 0xfffd && !strings.HasPrefix(s[i:], "\ufffd") {
			size, letter = 1, false
		}
		if letter != inWord {
			marked, inWord = marked+"\x01", letter
		}
		marked += s[i : i+size]
	}
	var text token.Text
	parts := strings.Split(marked, "\x01") // those at odd places are words
	for i := 1; i < len(parts); i += 2 {
		word := ""
		for _, sign := range parts[i] {
			if word += string(sign); len(word) > 80 {
				word = word[:len(word)-len(string(sign))]
				break
			}
		}
		paragraph := i > 1 && twoNewlines.MatchString(parts[i-1])
		if paragraph {
			text.Paragraphs = append(text.Paragraphs, len(text.Words))
		}
		if paragraph || i > 1 && endMark.MatchString(parts[i-1]) {
			text.Sentences = append(text.Sentences, len(text.Words))
		}
		text.Words = append(text.Words, word)
	}
	return text
}

func same(a, b token.Text) bool {
	return slices.Equal(a.Words, b.Words) && slices.Equal(a.Sentences, b.Sentences) && slices.Equal(a.Paragraphs, b.Paragraphs)
}

// pieces are what random texts are made of.
var pieces = []string{
	"a", "Bc", "3", "\u00e9", "\u672c", "\U0001f600", "\ufffd", strings.Repeat("x", 78), strings.Repeat("\u00e9", 39),
	" ", "\t", "\r", "\n", "\n", "\n", ".", "!", "?", ",", "-", "\u2013", "\u00a0", "\u00d7", "\xff", "\xc3", "\xe2\x82", "\x80", "\x00", "\r\n\r\n", " \n",
}

func text(random *rand.Rand, parts int) string {
	s := ""
	for range random.Intn(parts) {
		s += pieces[random.Intn(len(pieces))]
	}
	return s
}

func TestSplitAsExpressionsP71(t *testing.T) {
	random := rand.New(rand.NewSource(71))
	words, sentences, paragraphs := 0, 0, 0
	for range 30000 {
		s := text(random, 25)
		got, want := token.Split(s), expected(s)
		if !same(got, want) {
			t.Fatalf("of %q: %v, not %v", s, got, want)
		}
		words, sentences, paragraphs = words+len(got.Words), sentences+len(got.Sentences), paragraphs+len(got.Paragraphs)
	}
	if words < 50000 || sentences < 5000 || paragraphs < 2000 {
		t.Error("too few:", words, sentences, paragraphs)
	}
}

func TestAnswersAreNewP71(t *testing.T) {
	got := token.Split("a\n\nb\n\nc. d")
	_ = append(got.Sentences[:0], 70, 71, 72, 73)
	_ = append(got.Sentences, 74)
	if !slices.Equal(got.Paragraphs, []int{1, 2}) {
		t.Error("two lists of one answer share something:", got)
	}
	d := of(t, "<a>a\n\nb<p>c</p>d</a>")
	_ = append(d.Sentences[:0], 70, 71, 72, 73)
	if !slices.Equal(d.Paragraphs, []int{1, 2, 3}) {
		t.Error("two lists of one document share something:", d)
	}
}

func of(t *testing.T, s string) token.Doc {
	t.Helper()
	nodes, e := xml.Parse(s)
	if e != api.OK {
		t.Fatalf("Parse of %.200q: %v", s, e)
	}
	return token.Of(nodes)
}

func TestOfP72(t *testing.T) {
	for s, want := range map[string]token.Text{
		"<a/>":                        {},
		"<a>.</a>":                    {},
		"<p/>":                        {},
		"<p>a</p>":                    {Words: []string{"a"}},
		"<a>The cat. It sat!</a>":     {Words: []string{"The", "cat", "It", "sat"}, Sentences: []int{2}},
		"<a>x\n\ny</a>":               {Words: []string{"x", "y"}, Sentences: []int{1}, Paragraphs: []int{1}},
		"<a b='no'>x<!-- no -->y</a>": {Words: []string{"x", "y"}},
		// Words don't go on from text to text, and what ends one says nothing of the next.
		"<a>cat<b>fish</b>es</a>":                {Words: []string{"cat", "fish", "es"}},
		"<a>cat<b/>fish</a>":                     {Words: []string{"cat", "fish"}},
		"<a>cat.<b>Fish!</b>? It\n<b>\n</b></a>": {Words: []string{"cat", "Fish", "It"}},
		"<a>x\n<b/>\ny</a>":                      {Words: []string{"x", "y"}},
		"<a>x\n\n<b/>\n\ny</a>":                  {Words: []string{"x", "y"}},
		"<a>x.y<b>z. u v</b>w!\n\ns</a>": {
			Words: []string{"x", "y", "z", "u", "v", "w", "s"}, Sentences: []int{1, 3, 6}, Paragraphs: []int{6},
		},
		// The limit is one of each word.
		"<a>" + strings.Repeat("x", 81) + "<b>y</b></a>": {Words: []string{strings.Repeat("x", 80), "y"}},
		"<a>&#46;x&#10;&#10;y<![CDATA[.z]]></a>":         {Words: []string{"x", "y", "z"}, Sentences: []int{1, 2}, Paragraphs: []int{1}},
	} {
		got := of(t, s)
		if !same(token.Text{Words: got.Words, Sentences: got.Sentences, Paragraphs: got.Paragraphs}, want) {
			t.Errorf("of %q: %v, not %v", s, got, want)
		}
		if !got.Tree.Right(len(want.Words)) {
			t.Errorf("of %q: the tree %v", s, got.Tree)
		}
	}
	if got := token.Of(nil); len(got.Tree.Elems)+len(got.Words)+len(got.Sentences)+len(got.Paragraphs) != 0 {
		t.Error("of no nodes:", got)
	}
}

func TestParagraphsP72(t *testing.T) {
	for s, want := range map[string][]int{
		"<a>x y<?>z</?>u v</a>":                      {2, 3},
		"<a><?>x y</?>z</a>":                         {2},
		"<a>x<?>y z</?></a>":                         {1},
		"<a><?>x y</?></a>":                          nil,
		"<?>x y</?>":                                 nil,
		"<?>x<a>y</a>z</?>":                          nil,
		"<a>x<?/>y</a>":                              {1},
		"<a><?/>x y</a>":                             nil,
		"<a>x y<?/></a>":                             nil,
		"<a><?/><?/>x<?/><?/>y<?/><?/></a>":          {1},
		"<a><?/></a>":                                nil,
		"<a>x<?>...</?>y</a>":                        {1},
		"<a>x<b><?>y</?></b>z<?>u<?>v</?>w</?>s</a>": {1, 2, 3, 4, 5, 6},
		"<a>x<?>y</?><?>z</?>u</a>":                  {1, 2, 3},
		"<?>x<?><?>y</?></?>z</?>":                   {1, 2},
	} {
		for _, name := range []string{"p", "title", "sec", "li", "h1", "h2", "h3"} {
			got := of(t, strings.ReplaceAll(s, "?", name))
			if !slices.Equal(got.Paragraphs, want) || !slices.Equal(got.Sentences, want) {
				t.Errorf("of %q, for ? %s: %v", s, name, got)
			}
		}
		for _, name := range []string{"P", "pp", "h", "h0", "h4", "H1", "title1", "Title", "sect", "l", "ol", "div", "p:p", "_p_"} {
			got := of(t, strings.ReplaceAll(s, "?", name))
			if len(got.Paragraphs) != 0 || len(got.Sentences) != 0 {
				t.Errorf("of %q, for ? %s: %v", s, name, got)
			}
		}
	}
}

func TestParagraphsBesideSentencesP72(t *testing.T) {
	got := of(t, "<doc><title>One two</title><p>Three four. Five!</p><sec>Six <b>seven</b> eight\n\nnine</sec></doc>")
	if !slices.Equal(got.Sentences, []int{2, 4, 5, 8}) || !slices.Equal(got.Paragraphs, []int{2, 5, 8}) {
		t.Error(got)
	}
	// Both the text and an element may say that one begins; a paragraph of a later text may begin ahead of where an earlier element ends.
	got = of(t, "<a><sec>x. y<p>z\n\nu. v</p>w\n\ns</sec>r<h2>q! o</h2></a>")
	if !slices.Equal(got.Sentences, []int{1, 2, 3, 4, 5, 6, 7, 8, 9}) || !slices.Equal(got.Paragraphs, []int{2, 3, 5, 6, 7, 8}) {
		t.Error(got)
	}
}

// document is a random document.
func document(random *rand.Rand, level int) string {
	name := []string{"a", "p", "li", "h3", "b"}[random.Intn(5)]
	s := "<" + name + ">"
	for range random.Intn(5) {
		if level < 4 && random.Intn(2) == 0 {
			s += document(random, level+1)
			continue
		}
		for _, sign := range text(random, 12) {
			if xml.Sign(sign) {
				s += string(sign)
			}
		}
		s += []string{"", "<!---->"}[random.Intn(2)]
	}
	return s + "</" + name + ">"
}

func TestOfDocumentsP72(t *testing.T) {
	random := rand.New(rand.NewSource(72))
	paragraphs := 0
	for range 2000 {
		s := document(random, 0)
		got := of(t, s)
		nodes, _ := xml.Parse(s)
		var words []string
		sentence, paragraph := map[int]bool{}, map[int]bool{}
		for _, n := range nodes {
			if n.Name == "" {
				part := expected(n.Text)
				for _, at := range part.Sentences {
					sentence[len(words)+at] = true
				}
				for _, at := range part.Paragraphs {
					paragraph[len(words)+at] = true
				}
				words = append(words, part.Words...)
			}
		}
		for _, e := range got.Tree.Elems {
			if strings.Contains(" p title sec li h1 h2 h3 ", " "+e.Name+" ") {
				paragraph[e.From], paragraph[e.To] = true, true
			}
		}
		var wantSentences, wantParagraphs []int
		for at := 1; at < len(words); at++ {
			if paragraph[at] {
				wantParagraphs = append(wantParagraphs, at)
			}
			if paragraph[at] || sentence[at] {
				wantSentences = append(wantSentences, at)
			}
		}
		if !slices.Equal(got.Words, words) || !slices.Equal(got.Sentences, wantSentences) || !slices.Equal(got.Paragraphs, wantParagraphs) || !got.Tree.Right(len(words)) {
			t.Fatalf("of %q: %v, not %v, %v, %v", s, got, words, wantSentences, wantParagraphs)
		}
		paragraphs += len(wantParagraphs)
	}
	if paragraphs < 2000 {
		t.Error("too few paragraphs:", paragraphs)
	}
}

func TestRankP73(t *testing.T) {
	for _, w := range []struct {
		starts []int
		at     int
		want   int
	}{
		{nil, 0, 0}, {nil, math.MinInt, 0}, {nil, math.MaxInt, 0}, {[]int{}, 5, 0},
		{[]int{3}, 2, 0}, {[]int{3}, 3, 1}, {[]int{3}, 4, 1},
		{[]int{2, 4, 5, 8}, math.MinInt, 0}, {[]int{2, 4, 5, 8}, -1, 0}, {[]int{2, 4, 5, 8}, 0, 0}, {[]int{2, 4, 5, 8}, 1, 0},
		{[]int{2, 4, 5, 8}, 2, 1}, {[]int{2, 4, 5, 8}, 3, 1}, {[]int{2, 4, 5, 8}, 4, 2}, {[]int{2, 4, 5, 8}, 5, 3}, {[]int{2, 4, 5, 8}, 7, 3},
		{[]int{2, 4, 5, 8}, 8, 4}, {[]int{2, 4, 5, 8}, 9, 4}, {[]int{2, 4, 5, 8}, math.MaxInt, 4},
		{[]int{math.MinInt, -1, 0, math.MaxInt}, math.MinInt, 1}, {[]int{math.MinInt, -1, 0, math.MaxInt}, -1, 2},
		{[]int{math.MinInt, -1, 0, math.MaxInt}, math.MaxInt - 1, 3}, {[]int{math.MinInt, -1, 0, math.MaxInt}, math.MaxInt, 4},
	} {
		if got := token.Rank(w.starts, w.at); got != w.want {
			t.Errorf("Rank of %d in %v: %d", w.at, w.starts, got)
		}
	}
	for size := range 40 {
		var starts []int
		for i := range size {
			starts = append(starts, 1+3*i)
		}
		for at := -2; at < 3*size+3; at++ {
			want := 0
			for _, start := range starts {
				if start <= at {
					want++
				}
			}
			if got := token.Rank(starts, at); got != want {
				t.Fatalf("Rank of %d in %v: %d", at, starts, got)
			}
		}
	}
	for _, starts := range [][]int{{3, 1, 2}, {9, 0, -9}, {5, 5, 5}} { // those that don't rise
		for at := -10; at < 11; at++ {
			if got := token.Rank(starts, at); got < 0 || got > 3 {
				t.Errorf("Rank of %d in %v: %d", at, starts, got)
			}
		}
	}
}
