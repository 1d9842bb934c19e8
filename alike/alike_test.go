package alike_test

import (
	"math/rand"
	"slices"
	"strings"
	"testing"

	"catchword/alike"
	"catchword/api"
	"catchword/glob"
	"catchword/stem"
	"catchword/utf"
)

const stopped = "a, an, and, are, as, at, be, but, by, for, if, in, into, is, it, no, not, of, on, or, such, that, the, their, then, there, these, they, this, to, was, will, with"

// plainWords are the options by which words are seen as they are written.
var plainWords = alike.Options{Case: true, Marks: true}

// allOptions has each way to choose options.
func allOptions() []alike.Options {
	var all []alike.Options
	for i := range 32 {
		all = append(all, alike.Options{Case: i&1 != 0, Marks: i&2 != 0, Stem: i&4 != 0, Stop: i&8 != 0, Wild: i&16 != 0})
	}
	return all
}

func made(t *testing.T, w string, o alike.Options) alike.Word {
	t.Helper()
	x, e := alike.Make(w, o)
	if e != api.OK {
		t.Fatalf("Make of %q, %v: %v", w, o, e)
	}
	return x
}

func TestStopP81(t *testing.T) {
	words := strings.Split(stopped, ", ")
	if len(words) != 33 {
		t.Fatal(len(words), "words")
	}
	for _, w := range words {
		great := strings.ToUpper(w)
		for _, v := range []string{w, great, great[:1] + w[1:], w[:len(w)-1] + great[len(w)-1:]} {
			if !alike.Stop(v) {
				t.Errorf("%q isn't stopped", v)
			}
		}
		for _, v := range []string{" " + w, w + " ", w + ".", w + "\n", w + "\x00", w + "\xff", "\xff" + w, w + "q", "q" + w, w + w, w + "\u0301", w + ", " + w} {
			if alike.Stop(v) {
				t.Errorf("%q is stopped", v)
			}
		}
	}
}

func TestStopOfEachShortTextP81(t *testing.T) {
	words := strings.Split(stopped, ", ")
	const letters = "abcdefghijklmnopqrstuvwxyz"
	check := func(w string) {
		if alike.Stop(w) != slices.Contains(words, w) {
			t.Errorf("Stop of %q: %v", w, alike.Stop(w))
		}
	}
	check("")
	for i := range letters {
		check(letters[i : i+1])
		for j := range letters {
			two := string([]byte{letters[i], letters[j]})
			check(two)
			for k := range letters {
				check(two + letters[k:k+1])
			}
		}
	}
	for _, w := range words { // their neighbours
		for i := range len(w) {
			check(w[:i] + w[i+1:])
			for k := range letters {
				check(w[:i] + letters[k:k+1] + w[i+1:])
				check(w[:i] + letters[k:k+1] + w[i:])
			}
		}
	}
}

func TestStopOfOthersP81(t *testing.T) {
	for _, w := range []string{
		"", " ", "dog", "were", "from", "you", "he", "its", "has", "thee", "th", "wit", "-",
		// Marks aren't taken away, and letters beyond the first 384 have no small ones.
		"\u00e1", "\u00c1", "\u00e0t", "th\u00e9", "n\u00f3t", "\u00cf\u0074", "\uff41", "\uff34\uff28\uff25", "\u0131s", "\u0130s", "\u017fuch", "i\u017f",
		"\xc3", "a\xff", "\xe1", "t\xffhe",
	} {
		if alike.Stop(w) {
			t.Errorf("%q is stopped", w)
		}
	}
}

func TestOfByEachOptionP81(t *testing.T) {
	type o = alike.Options
	for _, x := range []struct {
		w    string
		o    alike.Options
		want string
	}{
		{"R\u00e9sum\u00e9s", o{}, "resumes"},
		{"R\u00e9sum\u00e9s", o{Stem: true}, "resum"},
		{"resume", o{Stem: true}, "resum"},
		{"R\u00c9sum\u00e9s", o{Case: true}, "REsumes"},
		{"R\u00c9sum\u00e9s", o{Marks: true}, "r\u00e9sum\u00e9s"},
		{"R\u00c9sum\u00e9s", o{Case: true, Marks: true}, "R\u00c9sum\u00e9s"},
		{"R\u00c9sum\u00e9s", o{Case: true, Stem: true}, "REsumes"},
		{"r\u00e9sum\u00e9s", o{Case: true, Stem: true}, "resum"},
		{"R\u00c9sum\u00e9s", o{Marks: true, Stem: true}, "r\u00e9sum\u00e9s"},
		{"Resumes", o{Marks: true, Stem: true}, "resum"},
		{"Resumes", o{Case: true, Marks: true, Stem: true}, "Resumes"},
		{"resumes", o{Case: true, Marks: true, Stem: true}, "resum"},
		{"Hopping", o{Stem: true}, "hop"},
		{"Hopping", o{}, "hopping"},
		{"The", o{Stop: true}, "the"},
		{"TH\u00c9", o{Case: true, Marks: true, Stop: true}, "TH\u00c9"},
		{"D.*s", o{Wild: true}, "d.*s"},
		{"D\\.S", o{Wild: true, Stem: true}, "d\\.s"},
		{"Dogs", o{Wild: true, Stem: true, Stop: true}, "dog"},
		{"Dogs", o{Case: true, Marks: true, Stem: true, Stop: true, Wild: true}, "Dogs"},
		{"", o{}, ""},
		{"", o{Stem: true}, ""},
		{"Is", o{Stem: true}, "is"}, // too short for a stem
		{"Dogs2", o{Stem: true}, "dogs2"},
		{"\u0178\u00ff", o{}, "yy"},
		{"\u0178\u00ff", o{Case: true}, "Yy"},
		{"\u0178\u00ff", o{Marks: true}, "\u00ff\u00ff"},
		{"\u00c6\u00d8\u00d0\u00de\u00df", o{}, "\u00e6\u00f8\u00f0\u00fe\u00df"}, // letters without others below their marks
		{"\u00c6\u00d8\u00d0\u00de\u00df", o{Case: true}, "\u00c6\u00d8\u00d0\u00de\u00df"},
		{"\u0130\u0131\u017f", o{}, "\u0130\u0131\u017f"},
		{"\u0391\u0410\uff21", o{}, "\u0391\u0410\uff21"}, // beyond the first 384
		{"\u00d7 \u00f7-,\x00\x7f", o{}, "\u00d7 \u00f7-,\x00\x7f"},
		{"E\u0301", o{}, "e\u0301"},
		{"\xff\xc3A\xc3\xa9\xe9", o{}, "\xff\xc3ae\xe9"},
		{"\xc3A\xc3\x89\xe9", o{Marks: true}, "\xc3a\xc3\xa9\xe9"},
		{"\xc3A\xc3\x89\xe9", o{Case: true}, "\xc3AE\xe9"},
		{"\xffdogs", o{Stem: true}, "\xffdogs"},
		{"\xed\xa0\x80A", o{}, "\xed\xa0\x80a"},
		{"\ufffd\xffA", o{}, "\ufffd\xffa"},
	} {
		if got := x.o.Of(x.w); got != x.want {
			t.Errorf("%q by %v: %q, not %q", x.w, x.o, got, x.want)
		}
	}
}

// seen is a text as options see it, as the promise says it.
func seen(s string, o alike.Options, stemmed bool) string {
	if !o.Marks {
		s = utf.Map(s, utf.Plain)
	}
	if !o.Case {
		s = utf.Map(s, utf.Low)
	}
	if stemmed {
		s = stem.Stem(s)
	}
	return s
}

func TestOfEachSignP81(t *testing.T) {
	for _, o := range allOptions() {
		for r := rune(0); r < 0x250; r++ {
			if got, want := o.Of(string(r)), seen(string(r), o, o.Stem); got != want {
				t.Errorf("%x by %v: %q, not %q", r, o, got, want)
			}
		}
		for b := range 256 {
			w := "x" + string([]byte{byte(b)}) + "Q"
			if got, want := o.Of(w), seen(w, o, o.Stem); got != want {
				t.Errorf("%q by %v: %q, not %q", w, o, got, want)
			}
		}
	}
}

func TestMakeRefusesP82(t *testing.T) {
	for _, x := range []struct {
		w    string
		wild api.Errno // with Wild; without it: ErrUTF, or OK
	}{
		{"\xff", api.ErrUTF}, {"a\xc3", api.ErrUTF}, {"the\xff", api.ErrUTF}, {"\xed\xa0\x80", api.ErrUTF}, {".{\xff", api.ErrUTF},
		{strings.Repeat("a", 201) + "\xff", api.ErrUTF}, {"\\\xff", api.ErrUTF}, {"\xc0\x80", api.ErrUTF}, {"\xf4\x90\x80\x80", api.ErrUTF},
		{".{", api.ErrQuery}, {"\\", api.ErrQuery}, {"a\\", api.ErrQuery}, {"a.{1}", api.ErrQuery}, {".{2,1}", api.ErrQuery}, {".{0,1000}", api.ErrQuery},
		{"A\u00c9.{,}", api.ErrQuery}, {strings.Repeat("a", 199) + "\\", api.ErrQuery},
		{strings.Repeat("a", 201), api.ErrMany}, {strings.Repeat(".", 201), api.ErrMany}, {strings.Repeat("\u00c9", 201), api.ErrMany}, {strings.Repeat("a", 200) + "\\", api.ErrMany},
		{strings.Repeat("a", 200), api.OK}, {strings.Repeat("\\a", 200), api.OK}, {strings.Repeat("\u00c9", 200), api.OK},
		{"", api.OK}, {"{", api.OK}, {"a{1}", api.OK}, {"\ufffd", api.OK}, {"dog cat", api.OK},
	} {
		for _, o := range allOptions() {
			want := x.wild
			if !o.Wild && want != api.ErrUTF {
				want = api.OK
			}
			y, e := alike.Make(x.w, o)
			if e != want {
				t.Errorf("Make of %q, %v: %v, not %v", x.w, o, e, want)
			}
			if e != api.OK && y != (alike.Word{}) {
				t.Errorf("Make of %q, %v: %v beside an error", x.w, o, y)
			}
			if y.Any {
				t.Errorf("Make of %q, %v is Any", x.w, o)
			}
		}
	}
}

func TestMakeOfStoppedP82(t *testing.T) {
	for _, w := range []string{"the", "The", "THE", "a", "A", "with", "wILL"} {
		for _, o := range allOptions() {
			x := made(t, w, o)
			if x.Any != o.Stop {
				t.Errorf("%q, %v: Any is %v", w, o, x.Any)
			}
			if !x.Match(w) {
				t.Errorf("%q, %v doesn't match itself", w, o)
			}
			for _, v := range []string{"dog", "", "a b", "\xff", "\u00e9", "th", "thex"} {
				if x.Match(v) != o.Stop {
					t.Errorf("%q, %v of %q: %v", w, o, v, x.Match(v))
				}
			}
			if o.Stop && x.Prefix() != "" {
				t.Errorf("%q, %v begins with %q", w, o, x.Prefix())
			}
		}
	}
	for _, w := range []string{"dog", "", "th.", "t.e", ".*", "th\u00e9", "the ", "\\the", "thee"} {
		for _, o := range allOptions() {
			x := made(t, w, o)
			if x.Any || x.Match("another") != (o.Wild && w == ".*") {
				t.Errorf("%q, %v is any word", w, o)
			}
		}
	}
}

func TestAnyP82(t *testing.T) {
	x := alike.Word{Any: true}
	y := made(t, "int.*", alike.Options{Case: true, Marks: true, Wild: true})
	y.Any = true
	z := made(t, "int", plainWords)
	z.Any = true
	for _, w := range []alike.Word{x, y, z} {
		if !w.Match("") || !w.Match("dog") || !w.Match("\xff") || w.Prefix() != "" {
			t.Error(w, "isn't any word")
		}
	}
}

// held is a word of a question with options, and words that match, and don't.
type held struct {
	w       string
	o       alike.Options
	yes, no []string
}

func check(t *testing.T, of []held) {
	t.Helper()
	for _, h := range of {
		x := made(t, h.w, h.o)
		for _, v := range h.yes {
			if !x.Match(v) {
				t.Errorf("%q, %v doesn't match %q", h.w, h.o, v)
			}
		}
		for _, v := range h.no {
			if x.Match(v) {
				t.Errorf("%q, %v matches %q", h.w, h.o, v)
			}
		}
	}
}

func TestMatchOfWordsP82(t *testing.T) {
	type o = alike.Options
	check(t, []held{
		{"r\u00e9sum\u00e9", o{}, []string{"resume", "RESUME", "R\u00c9SUM\u00c9", "r\u00e8sum\u00eb"}, []string{"resumes", "resum", "", "r\u00e9sum\u00e9 ", "r\xe9sum\xe9", "resume\xff"}},
		{"R\u00e9sume", o{Case: true}, []string{"Resume", "R\u00e9sum\u00e9"}, []string{"resume", "ResumE", "RESUME"}},
		{"R\u00e9sume", o{Marks: true}, []string{"r\u00e9sume", "R\u00c9SUME"}, []string{"resume", "r\u00e8sume", "r\u00e9sum\u00e9"}},
		{"R\u00e9sume", plainWords, []string{"R\u00e9sume"}, []string{"r\u00e9sume", "Resume", "R\u00c9sume"}},
		{"hunting", o{}, []string{"Hunting"}, []string{"hunted", "hunt", "hunts"}},
		{"hunting", o{Stem: true}, []string{"hunting", "HUNTED", "hunt", "Hunts", "h\u00fbnts"}, []string{"hunter", "hunti", "hunting2"}},
		{"hunt", o{Stem: true}, []string{"hunting", "hunted"}, []string{"hun"}},
		{"Hunting", o{Stem: true, Case: true}, []string{"Hunting"}, []string{"hunting", "hunted", "Hunted", "Hunt", "hunt"}},
		{"hunting", o{Stem: true, Case: true}, []string{"hunted", "hunt", "h\u00fbnts"}, []string{"Hunting", "Hunt"}},
		{"hunting", o{Stem: true, Marks: true}, []string{"HUNTED", "hunt"}, []string{"h\u00fbnts", "h\u00fbnting"}},
		{"h\u00fbnting", o{Stem: true, Marks: true}, []string{"h\u00fbnting", "H\u00dbNTING"}, []string{"h\u00fbnts", "hunting"}},
		{"relational", o{Stem: true}, []string{"relate", "relation", "related", "relat"}, []string{"relative2", "rel"}},
		{"universe", o{Stem: true}, []string{"universal", "university"}, []string{"diverse"}},
		{"the", o{}, []string{"The", "TH\u00c9"}, []string{"dog", "then", ""}},
		{"d.g", o{}, []string{"D.G", "d.g"}, []string{"dog", "dg"}},
		{".*", o{}, []string{".*"}, []string{"", "dog"}},
		{"\\", o{}, []string{"\\"}, []string{"", "\\\\"}},
		{"", o{}, []string{""}, []string{"a", " ", "\xff", "\x00"}},
		{"", o{Stem: true}, []string{""}, []string{"s", "ing"}},
		{"\u00d7", o{}, []string{"\u00d7"}, []string{"x", "\u00f7"}},
		{"\ufffd", o{}, []string{"\ufffd"}, []string{"\xff", "\xef\xbf"}},
		{"\u00e9", o{Marks: true}, []string{"\u00c9"}, []string{"\xe9", "\xc3", "e", "\xc3\xc3\xa9"}},
	})
}

func TestMatchOfPatternsP82(t *testing.T) {
	type o = alike.Options
	check(t, []held{
		{"d.g", o{Wild: true}, []string{"dog", "DIG", "d\u00e9g", "D\u8a9eg", "d.g"}, []string{"dg", "doog", "dogs", "", "d\xffg"}},
		{"D.g", o{Wild: true, Case: true}, []string{"Dog", "D\u00e9g"}, []string{"dog", "DoG"}},
		{"r.sum\u00e9", o{Wild: true}, []string{"RESUME", "r\u00e9sum\u00e9"}, []string{"rsume", "resumes"}},
		{"R.sum\u00c9", o{Wild: true, Case: true}, []string{"R\u00e9sumE", "Resum\u00c9"}, []string{"Resum\u00e9", "resumE"}},
		{"r.sum\u00c9", o{Wild: true, Marks: true}, []string{"RESUM\u00c9", "r\u00e9sum\u00e9"}, []string{"RESUME", "r\u00e9sume"}},
		{"r.sum\u00c9", o{Wild: true, Marks: true, Case: true}, []string{"resum\u00c9", "r\u00c9sum\u00c9"}, []string{"resum\u00e9", "resumE"}},
		{"hunt.+", o{Wild: true, Stem: true}, []string{"hunting", "hunted", "HUNTS"}, []string{"hunt"}},
		{"hunt", o{Wild: true, Stem: true}, []string{"hunt", "HUNT"}, []string{"hunting", "hunts"}},
		{"hunting", o{Wild: true, Stem: true}, []string{"hunting"}, []string{"hunt", "hunted"}},
		{"hunt.+", o{Wild: true}, []string{"hunting", "H\u00dbNTED"}, []string{"hunt", "hun"}},
		{".*ing", o{Wild: true, Stem: true}, []string{"ing", "hunting"}, []string{"hunt", "ings"}},
		{"", o{Wild: true}, []string{""}, []string{"a"}},
		{".*", o{Wild: true}, []string{"", "a", "\u00e9", "any word"}, []string{"\xff", "a\xc3"}},
		{".?", o{Wild: true}, []string{"", "a"}, []string{"ab"}},
		{"x.{1,2}Y", o{Wild: true}, []string{"xay", "XABY"}, []string{"xy", "xabcy"}},
		{"\\D\\.\\\u00c9", o{Wild: true}, []string{"d.e", "D.\u00e9"}, []string{"dxe", "\\d\\.\\e"}},
		{"\\\\A", o{Wild: true}, []string{"\\a"}, []string{"a"}},
		{"the", o{Wild: true}, []string{"The"}, []string{"dog"}},
		{"th.", o{Wild: true, Stop: true}, []string{"The", "tho"}, []string{"dog", "th"}},
		{"\\the", o{Wild: true, Stop: true}, []string{"The"}, []string{"dog"}},
		{strings.Repeat("A", 200), o{Wild: true}, []string{strings.Repeat("a", 200)}, []string{strings.Repeat("a", 199), strings.Repeat("a", 201)}},
	})
}

func TestPrefixP82(t *testing.T) {
	type o = alike.Options
	for _, x := range []struct {
		w    string
		o    alike.Options
		want string
	}{
		{"int", o{}, ""}, {"int", o{Case: true}, ""}, {"int", o{Marks: true}, ""}, {"int", plainWords, "int"},
		{"Int\u00c9", plainWords, "Int\u00c9"}, {"", plainWords, ""}, {"int.*", plainWords, "int.*"}, {"\\a", plainWords, "\\a"},
		{"int", o{Case: true, Marks: true, Stem: true}, ""}, {"hunting", o{Case: true, Marks: true, Stem: true}, ""},
		{"the", plainWords, "the"}, {"the", o{Case: true, Marks: true, Stop: true}, ""}, {"int", o{Case: true, Marks: true, Stop: true}, "int"},
		{"int.*", o{Wild: true}, ""}, {"int.*", o{Wild: true, Case: true}, ""}, {"int.*", o{Wild: true, Marks: true}, ""},
		{"int.*", o{Wild: true, Case: true, Marks: true}, "int"}, {"int.*", o{Wild: true, Case: true, Marks: true, Stem: true}, "int"},
		{"Int\u00c9.al", o{Wild: true, Case: true, Marks: true, Stop: true}, "Int\u00c9"},
		{"hunting", o{Wild: true, Case: true, Marks: true, Stem: true}, "hunting"},
		{"a\\.b.c", o{Wild: true, Case: true, Marks: true}, "a.b"}, {".*al", o{Wild: true, Case: true, Marks: true}, ""},
		{"", o{Wild: true, Case: true, Marks: true}, ""}, {"the", o{Wild: true, Case: true, Marks: true}, "the"},
		{"the", o{Wild: true, Case: true, Marks: true, Stop: true}, ""},
	} {
		if got := made(t, x.w, x.o).Prefix(); got != x.want {
			t.Errorf("Prefix of %q, %v: %q, not %q", x.w, x.o, got, x.want)
		}
	}
	if p := (alike.Word{}).Prefix(); p != "" {
		t.Errorf("Prefix of no word: %q", p)
	}
}

// asked is what the promises say of a word: its error, whether it matches another one, and its Prefix.
func asked(w string, o alike.Options, v string) (e api.Errno, matches bool, prefix string) {
	if !utf.Right(w) {
		return api.ErrUTF, false, ""
	}
	if o.Stop && slices.Contains(strings.Split(stopped, ", "), seen(w, alike.Options{Marks: true}, false)) {
		return api.OK, true, ""
	}
	if !o.Wild {
		if o.Case && o.Marks && !o.Stem {
			prefix = w
		}
		return api.OK, seen(v, o, o.Stem) == seen(w, o, o.Stem), prefix
	}
	// No sign of patterns is one that options see otherwise, nor do they see one so.
	g, e := glob.Parse(seen(w, o, false))
	if e != api.OK {
		return e, false, ""
	}
	if o.Case && o.Marks {
		prefix = g.Prefix()
	}
	return api.OK, g.Match(seen(v, o, false)), prefix
}

func TestAsAskedP82(t *testing.T) {
	pieces := []string{"a", "A", "\u00e1", "\u00c1", "t", "T", "h", "e", "\u00c9", "ing", "ed", "s", "hunt", "the", "The", "\u00d7", "\u0178", "\u017f", "\u8a9e", "b"}
	others := []string{".", ".*", ".+", ".?", ".{0,2}", "\\.", "\\A", ".{", "\\", "\xff", "\xc3"}
	random := rand.New(rand.NewSource(8))
	word := func(most, other int) string {
		w := ""
		for range random.Intn(most) {
			if random.Intn(10) < other {
				w += others[random.Intn(len(others))]
			} else {
				w += pieces[random.Intn(len(pieces))]
			}
		}
		return w
	}
	yes, errors := 0, 0
	for _, o := range allOptions() {
		for range 3000 {
			w := word(5, 2)
			x, e := alike.Make(w, o)
			for i := range 8 {
				v := word(5, 0)
				switch i {
				case 0:
					v = w
				case 1:
					v = strings.ToUpper(w)
				case 2:
					v = w + "s"
				}
				wantE, want, prefix := asked(w, o, v)
				if e != wantE || e == api.OK && (x.Match(v) != want || x.Prefix() != prefix) {
					t.Fatalf("%q, %v of %q: %v %v %q, not %v %v %q", w, o, v, e, x.Match(v), x.Prefix(), wantE, want, prefix)
				}
				if e != api.OK {
					errors++
				} else if x.Match(v) {
					yes++
					if !strings.HasPrefix(v, x.Prefix()) {
						t.Fatalf("%q, %v matches %q, but its prefix is %q", w, o, v, x.Prefix())
					}
				}
			}
		}
	}
	if yes < 100000 || errors < 10000 {
		t.Error("too few words matched, or were refused:", yes, errors)
	}
}

func TestWordsStayP82(t *testing.T) {
	x := made(t, "int.*", alike.Options{Case: true, Marks: true, Wild: true})
	y := made(t, "dog", plainWords)
	z := y
	z.Any = true
	for range 2 { // asked again, they answer the same
		if x.Prefix() != "int" || !x.Match("integer") || x.Match("in") || y.Match("cat") || !y.Match("dog") || y.Any {
			t.Error("a word has changed")
		}
	}
}
