package dict_test

import (
	"bytes"
	"math"
	"math/rand"
	"slices"
	"strings"
	"testing"

	"catchword/alike"
	"catchword/api"
	"catchword/dict"
	"catchword/vint"
)

// all is the words of a dict, one by one.
func all(d dict.Dict) []string {
	var words []string
	for i := range d.Len() {
		words = append(words, d.Word(i))
	}
	return words
}

// ordered is words in order, each once, by the plainest means.
func ordered(words []string) []string {
	var list []string
	for _, w := range words {
		at := 0
		for at < len(list) && bytes.Compare([]byte(list[at]), []byte(w)) < 0 {
			at++
		}
		if at == len(list) || list[at] != w {
			list = slices.Insert(list, at, w)
		}
	}
	return list
}

// random is words by chance, many of which begin alike.
func random(r *rand.Rand) []string {
	var words []string
	for range r.Intn(12) {
		words = append(words, randomWord(r))
	}
	return words
}

func randomWord(r *rand.Rand) string {
	pieces := []string{"a", "b", "ab", "A", "\u00e9", "\xff", "\x00", "\xc3", "s", "ing"}
	var b strings.Builder
	for range r.Intn(5) {
		b.WriteString(pieces[r.Intn(len(pieces))])
	}
	return b.String()
}

func TestMakeP101(t *testing.T) {
	for _, x := range []struct{ words, want []string }{
		{nil, nil},
		{[]string{}, nil},
		{[]string{""}, []string{""}},
		{[]string{"", "", ""}, []string{""}},
		{[]string{"b", "a", "ab", "b"}, []string{"a", "ab", "b"}},
		{[]string{"a", "a", "a"}, []string{"a"}},
		{[]string{"b", "", "a", ""}, []string{"", "a", "b"}},
		{[]string{"dogs", "do", "dog", "d", "Dog", "DOG"}, []string{"DOG", "Dog", "d", "do", "dog", "dogs"}},
		// By their bytes, whatever signs these are.
		{[]string{"\u00e9", "z", "Z", "9", "\xff", "\x80", "\x7f", "\uffff", "\U0001f600", "\x00", "e\u0301"}, []string{"\x00", "9", "Z", "e\u0301", "z", "\x7f", "\x80", "\u00e9", "\uffff", "\U0001f600", "\xff"}},
		{[]string{"a\x80", "a\x7f", "a", "a\x00", "a\xff\xff", "a\xff"}, []string{"a", "a\x00", "a\x7f", "a\x80", "a\xff", "a\xff\xff"}},
	} {
		before := slices.Clone(x.words)
		d := dict.Make(x.words)
		if d.Len() != len(x.want) || !slices.Equal(all(d), x.want) {
			t.Errorf("Make of %q: %q, not %q", x.words, all(d), x.want)
		}
		if !slices.Equal(before, x.words) {
			t.Errorf("%q was changed: %q", before, x.words)
		}
	}
	var none dict.Dict
	if none.Len() != 0 || none.Word(0) != "" {
		t.Error("words of none:", none.Len(), none.Word(0))
	}
}

func TestMakeKeepsNothingP101(t *testing.T) {
	words := []string{"b", "a", "c"}
	d := dict.Make(words)
	clear(words)
	if !slices.Equal(all(d), []string{"a", "b", "c"}) {
		t.Error("the list is kept:", all(d))
	}
}

func TestWordP101(t *testing.T) {
	d := dict.Make([]string{"x", "y"})
	for i, want := range map[int]string{0: "x", 1: "y", 2: "", 3: "", -1: "", -2: "", math.MaxInt: "", math.MinInt: ""} {
		if got := d.Word(i); got != want {
			t.Errorf("Word of %d: %q, not %q", i, got, want)
		}
	}
}

func TestFindP101(t *testing.T) {
	d := dict.Make([]string{"b", "d", "dd", "\u00e9"})
	for _, x := range []struct {
		w  string
		at int
		is bool
	}{
		{"b", 0, true}, {"d", 1, true}, {"dd", 2, true}, {"\u00e9", 3, true},
		{"", 0, false}, {"a", 0, false}, {"B", 0, false}, {"b\x00", 1, false}, {"c", 1, false}, {"d\x00", 2, false}, {"dc", 2, false}, {"dda", 3, false}, {"e", 3, false}, {"\xc3", 3, false},
		{"\u00e9s", 4, false}, {"\u00ea", 4, false}, {"\xff", 4, false},
	} {
		if at, is := d.Find(x.w); at != x.at || is != x.is {
			t.Errorf("Find of %q: %d, %v, not %d, %v", x.w, at, is, x.at, x.is)
		}
	}
	for _, w := range []string{"", "a"} {
		if at, is := (dict.Dict{}).Find(w); at != 0 || is {
			t.Errorf("Find of %q in none: %d, %v", w, at, is)
		}
		if at, is := dict.Make([]string{""}).Find(w); at != len(w) || is != (w == "") {
			t.Errorf("Find of %q beside a word without bytes: %d, %v", w, at, is)
		}
	}
}

func TestPrefixP101(t *testing.T) {
	d := dict.Make([]string{"b", "d", "dd", "ddx", "dx", "e", "\u00e9", "\xff", "\xff\xff"})
	for _, x := range []struct {
		p        string
		from, to int
	}{
		{"", 0, 9}, {"b", 0, 1}, {"d", 1, 5}, {"dd", 2, 4}, {"ddx", 3, 4}, {"dx", 4, 5}, {"e", 5, 6}, {"\u00e9", 6, 7}, {"\xc3", 6, 7}, {"\xff", 7, 9}, {"\xff\xff", 8, 9},
		// None begins so: none from where they would be.
		{"a", 0, 0}, {"ba", 1, 1}, {"c", 1, 1}, {"da", 2, 2}, {"ddxx", 4, 4}, {"de", 4, 4}, {"dy", 5, 5}, {"D", 0, 0}, {"\u00e8", 6, 6}, {"\u00ea", 7, 7}, {"\xff\xfe", 8, 8}, {"\xff\xff\x00", 9, 9}, {"\xff\xff\xff", 9, 9},
	} {
		if from, to := d.Prefix(x.p); from != x.from || to != x.to {
			t.Errorf("Prefix of %q: %d, %d, not %d, %d", x.p, from, to, x.from, x.to)
		}
	}
	if from, to := dict.Make([]string{"b", "a", "ab", "b"}).Prefix("a"); from != 0 || to != 2 {
		t.Error("Prefix of a:", from, to)
	}
	for _, p := range []string{"", "a", "\xff"} {
		if from, to := (dict.Dict{}).Prefix(p); from != 0 || to != 0 {
			t.Errorf("Prefix of %q in none: %d, %d", p, from, to)
		}
	}
	if from, to := dict.Make([]string{"", "a"}).Prefix(""); from != 0 || to != 2 {
		t.Error("Prefix of no text beside a word without bytes:", from, to)
	}
}

func TestWordsOneByOneP101(t *testing.T) {
	r := rand.New(rand.NewSource(101))
	for range 6000 {
		words := random(r)
		d, list := dict.Make(words), ordered(words)
		if !slices.Equal(all(d), list) {
			t.Fatalf("Make of %q: %q", words, all(d))
		}
		for range 6 {
			w := randomWord(r)
			ahead, begin := 0, 0
			for _, v := range list {
				if v < w {
					ahead++
				}
				if strings.HasPrefix(v, w) {
					begin++
				}
			}
			if at, is := d.Find(w); at != ahead || is != slices.Contains(list, w) {
				t.Fatalf("%q, Find of %q: %d, %v", list, w, at, is)
			}
			if from, to := d.Prefix(w); from != ahead || to != ahead+begin {
				t.Fatalf("%q, Prefix of %q: %d, %d", list, w, from, to)
			}
		}
	}
}

func made(t *testing.T, w string, o alike.Options) alike.Word {
	t.Helper()
	x, e := alike.Make(w, o)
	if e != api.OK {
		t.Fatalf("Make of %q, %v: %v", w, o, e)
	}
	return x
}

func TestMatchP101(t *testing.T) {
	type o = alike.Options
	d := dict.Make([]string{"", "Hunt", "R\u00c9SUM\u00c9", "dig", "dog", "dogs", "drag", "hunt", "hunted", "hunting", "resume", "r\u00e9sum\u00e9s", "the"})
	plain := o{Case: true, Marks: true}
	for _, x := range []struct {
		w    string
		o    alike.Options
		want []int
	}{
		{"hunt", o{}, []int{1, 7}},
		{"hunt", plain, []int{7}},
		{"Hunt", plain, []int{1}},
		{"hun", plain, nil},
		{"hunts", plain, nil},
		{"hunts", o{Stem: true}, []int{1, 7, 8, 9}},
		{"hunts", o{Case: true, Marks: true, Stem: true}, []int{7, 8, 9}},
		{"resumes", o{Stem: true}, []int{2, 10, 11}},
		{"resume", o{}, []int{2, 10}},
		{"resume", o{Case: true}, []int{10}},
		{"r\u00e9sum\u00e9", o{Marks: true}, []int{2}},
		{"d.g", o{Wild: true}, []int{3, 4}},
		{"d.g", o{Case: true, Marks: true, Wild: true}, []int{3, 4}},
		{"d.*", o{Case: true, Marks: true, Wild: true}, []int{3, 4, 5, 6}},
		{"hunt.*", o{Case: true, Marks: true, Wild: true}, []int{7, 8, 9}},
		{"hunt.*", o{Case: true, Marks: true, Wild: true, Stem: true}, []int{7, 8, 9}},
		{"hunt.*", o{Wild: true}, []int{1, 7, 8, 9}},
		{".*", o{Wild: true}, []int{0, 1, 2, 3, 4, 5, 6, 7, 8, 9, 10, 11, 12}},
		{".+s", o{Case: true, Marks: true, Wild: true}, []int{5, 11}},
		{"cat", o{}, nil},
		{"z.*", o{Case: true, Marks: true, Wild: true}, nil},
		{"", o{}, []int{0}},
		{"", plain, []int{0}},
		{"the", o{}, []int{12}},
		{"The", o{Stop: true}, []int{0, 1, 2, 3, 4, 5, 6, 7, 8, 9, 10, 11, 12}}, // any
		{"the", o{Case: true, Marks: true, Stop: true}, []int{0, 1, 2, 3, 4, 5, 6, 7, 8, 9, 10, 11, 12}},
		{"dog", o{Stop: true}, []int{4}},
	} {
		if got := d.Match(made(t, x.w, x.o)); !slices.Equal(got, x.want) {
			t.Errorf("Match of %q, %v: %v, not %v", x.w, x.o, got, x.want)
		}
	}
	if got := d.Match(alike.Word{Any: true}); len(got) != d.Len() {
		t.Error("Match of any:", got)
	}
	if got := (dict.Dict{}).Match(alike.Word{Any: true}); len(got) != 0 {
		t.Error("Match of any, in none:", got)
	}
}

func TestMatchWordByWordP101(t *testing.T) {
	r := rand.New(rand.NewSource(1011))
	found := 0
	for range 8000 {
		words := random(r)
		d, list := dict.Make(words), ordered(words)
		i := r.Intn(32)
		o := alike.Options{Case: i&1 != 0, Marks: i&2 != 0, Stem: i&4 != 0, Stop: i&8 != 0, Wild: i&16 != 0}
		w := randomWord(r)
		if o.Wild {
			w += []string{".", ".*", ".+b", ".?", "", "a.*"}[r.Intn(6)]
		}
		x, e := alike.Make(w, o)
		if e != api.OK {
			continue
		}
		var want []int
		for at, v := range list {
			if x.Match(v) {
				want = append(want, at)
			}
		}
		found += len(want)
		got := d.Match(x)
		if !slices.Equal(got, want) {
			t.Fatalf("%q, Match of %q, %v: %v, not %v", list, w, o, got, want)
		}
		for i := range got {
			got[i] = -1
		}
		if !slices.Equal(d.Match(x), want) {
			t.Fatalf("%q: what was told is kept", list)
		}
	}
	if found < 1000 {
		t.Error("only", found, "were found")
	}
}

// laid is words as bytes, each as how many bytes it is said to have in common with the one ahead, and the rest.
func laid(parts ...any) []byte {
	b := vint.Put(nil, uint64(len(parts)/2))
	for i := 0; i < len(parts); i += 2 {
		b = vint.Text(vint.Put(b, uint64(parts[i].(int))), parts[i+1].(string))
	}
	return b
}

func TestEncodeP102(t *testing.T) {
	long := strings.Repeat("x", 300)
	for _, x := range []struct {
		words []string
		want  []byte
	}{
		{nil, []byte{0}},
		{[]string{""}, []byte{1, 0, 0}},
		{[]string{"b", "a", "ab", "b"}, []byte{3, 0, 1, 'a', 1, 1, 'b', 0, 1, 'b'}},
		{[]string{"", "a"}, []byte{2, 0, 0, 0, 1, 'a'}},
		{[]string{"dog", "dogs", "dig", "Dog"}, laid(0, "Dog", 0, "dig", 1, "og", 3, "s")},
		{[]string{"hunt", "hunted", "hunting", "hut"}, laid(0, "hunt", 4, "ed", 4, "ing", 2, "t")},
		{[]string{"abc", "abd", "b"}, laid(0, "abc", 2, "d", 0, "b")},
		{[]string{"\u00e9", "\u00e8", "\xff"}, laid(0, "\u00e8", 1, "\xa9", 0, "\xff")}, // by bytes, not by signs
		{[]string{long + "a", long + "b", long}, laid(0, long, 300, "a", 300, "b")},
		{[]string{"a", long}, laid(0, "a", 0, long)},
	} {
		d := dict.Make(x.words)
		if got := d.Encode(nil); !bytes.Equal(got, x.want) {
			t.Errorf("Encode of %q: %x, not %x", x.words, got, x.want)
		}
		ahead := []byte("ahead\x80")
		if got := d.Encode(slices.Clone(ahead)); !bytes.Equal(got, slices.Concat(ahead, x.want)) {
			t.Errorf("Encode of %q behind others: %x", x.words, got)
		}
		r := vint.Read(x.want)
		if got, e := dict.Decode(r); e != api.OK || r.End() != api.OK || !slices.Equal(all(got), ordered(x.words)) {
			t.Errorf("Decode of %x: %q, %v, %v", x.want, all(got), e, r.End())
		}
	}
	if got := (dict.Dict{}).Encode(nil); !bytes.Equal(got, []byte{0}) {
		t.Errorf("Encode of none: %x", got)
	}
}

func TestManyWordsP102(t *testing.T) {
	var words []string
	for i := range 30000 {
		b := vint.Put(nil, uint64(i*7919%30000))
		words = append(words, "w"+string(b))
	}
	d := dict.Make(words)
	if d.Len() != 30000 {
		t.Fatal(d.Len(), "words")
	}
	r := vint.Read(d.Encode(nil))
	if got, e := dict.Decode(r); e != api.OK || r.End() != api.OK || !slices.Equal(all(got), all(d)) {
		t.Error("many words come back as others:", got.Len(), e)
	}
}

func refused(t *testing.T, b []byte) {
	t.Helper()
	if d, e := dict.Decode(vint.Read(b)); e != api.ErrForm || d.Len() != 0 || d.Word(0) != "" {
		t.Errorf("Decode of %x: %q, %v", b, all(d), e)
	}
}

func TestDecodeOfWrongBytesP102(t *testing.T) {
	for _, b := range [][]byte{
		nil, {}, {0x80}, {0x80, 0}, {0xff},
		{1}, {1, 0}, {1, 0, 1}, {2, 0, 1, 'a'},
		laid(0, "b", 0, "a"),                 // falls
		laid(0, "a", 0, "a"),                 // twice
		laid(0, "a", 1, ""),                  // twice, by what is in common
		laid(0, "ab", 1, ""),                 // falls, to the beginning of the one ahead
		laid(0, "ab", 1, "a"),                // falls behind what is in common
		laid(0, "", 0, ""),                   // twice no bytes
		laid(0, "a", 0, ""),                  // falls to no bytes
		laid(0, "a", 0, "b", 0, "a"),         // the third one falls
		laid(0, "a", 0, "b", 0, "c", 0, "c"), // the last one comes twice
		laid(0, "ab", 0, "ac"),               // has more in common than said
		laid(0, "abc", 1, "bd"),              //
		laid(0, "dog", 2, "gs"),              // all that the one ahead has
		laid(1, "a"),                         // the first has none
		laid(1, ""), laid(2, "ab"),           //
		laid(0, "a", 2, "b"), // more than the one ahead has
		laid(0, "", 1, "b"),  //
		{1, 0x80, 0, 1, 'a'}, // numbers in another form
		{1, 0, 0x80, 1, 'a'},
		{0x80, 1, 0, 1, 'a'},
		{2, 0, 1, 'a', 0x80, 1, 1, 'b'},
		{1, 0, 2, 'a'}, // a text that is longer than what is left
		{0x81, 0xff, 0xff, 0xff, 0xff, 0xff, 0xff, 0xff, 0xff, 0x7f, 0, 1, 'a'},
		{0x80 | 0x7f, 0xff, 0xff, 0xff, 0xff, 0xff, 0xff, 0xff, 0x7f, 0, 1, 'a'},
		{1, 0, 0x81, 0xff, 0xff, 0xff, 0xff, 0xff, 0xff, 0xff, 0xff, 0x7f, 'a'},
		{2, 0, 1, 'a', 0x81, 0xff, 0xff, 0xff, 0xff, 0xff, 0xff, 0xff, 0xff, 0x7f, 1, 'b'},
	} {
		refused(t, b)
	}
	b := dict.Make([]string{"", "a", "dog", "dogs", "hunt", "hunting", "\u00e9"}).Encode(nil)
	for i := range b {
		refused(t, b[:i])
	}
}

func TestDecodeBehindOthersP102(t *testing.T) {
	d := dict.Make([]string{"dog", "dogs", "cat"})
	b := vint.Put(d.Encode(vint.Text(nil, "first")), 77)
	r := vint.Read(b)
	if s := r.Text(9); s != "first" {
		t.Fatal(s)
	}
	got, e := dict.Decode(r)
	if e != api.OK || !slices.Equal(all(got), []string{"cat", "dog", "dogs"}) {
		t.Error("words behind others:", all(got), e)
	}
	if n := r.Num(100); n != 77 || r.End() != api.OK { // what is behind them is left
		t.Error("behind words:", n, r.End())
	}
}

func TestDecodeBehindAnErrorP102(t *testing.T) {
	for _, b := range [][]byte{{0}, {9, 0}, {9, 1, 0, 1, 'a'}} {
		r := vint.Read(b)
		r.Num(-1)
		if r.Err() == api.OK {
			r.Num(0)
			r.Num(0) // now nothing is left
		}
		if r.Err() != api.ErrForm {
			t.Fatal(r.Err())
		}
		if d, e := dict.Decode(r); e != api.ErrForm || d.Len() != 0 {
			t.Errorf("Decode of %x behind an error: %q, %v", b, all(d), e)
		}
	}
	if d, e := dict.Decode(nil); e != api.ErrForm || d.Len() != 0 {
		t.Errorf("Decode of nothing: %q, %v", all(d), e)
	}
}

func TestThereAndBackP102(t *testing.T) {
	r := rand.New(rand.NewSource(102))
	right, wrong := 0, 0
	for range 60000 {
		d := dict.Make(random(r))
		b := d.Encode(nil)
		reader := vint.Read(b)
		got, e := dict.Decode(reader)
		if e != api.OK || reader.End() != api.OK || !slices.Equal(all(got), all(d)) {
			t.Fatalf("%q comes back as %q, %v", all(d), all(got), e)
		}
		for range 1 + r.Intn(2) {
			b[r.Intn(len(b))] = byte(r.Intn(256) >> r.Intn(8))
		}
		want, size, ok := read(b)
		reader = vint.Read(b)
		got, e = dict.Decode(reader)
		if ok != (e == api.OK) || !slices.Equal(all(got), want) || !ok && e != api.ErrForm || ok && reader.Left() != len(b)-size {
			t.Fatalf("Decode of %x: %q, %v, not %q, %v", b, all(got), e, want, ok)
		}
		if ok {
			right++
		} else {
			wrong++
		}
	}
	if right < 5000 || wrong < 5000 {
		t.Error(right, "were right,", wrong, "wrong")
	}
}

// read is the words of bytes, and how many bytes they are: those that would be laid so, and no others.
func read(b []byte) ([]string, int, bool) {
	rest := b
	number := func() (int, bool) {
		n, size := vint.Get(rest)
		rest = rest[size:]
		return int(min(n, math.MaxInt32)), size > 0
	}
	count, ok := number()
	var words []string
	for ok && len(words) < count {
		ahead := ""
		if len(words) > 0 {
			ahead = words[len(words)-1]
		}
		same, is := number()
		size, has := number()
		if !is || !has || same > len(ahead) || size > len(rest) {
			return nil, 0, false
		}
		words = append(words, ahead[:same]+string(rest[:size]))
		rest = rest[size:]
	}
	size := len(b) - len(rest)
	if !ok || !slices.Equal(ordered(words), words) || !bytes.Equal(dict.Make(words).Encode(nil), b[:size]) {
		return nil, 0, false
	}
	return words, size, true
}
