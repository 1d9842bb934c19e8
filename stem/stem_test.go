package stem_test

import (
	"math/rand"
	"strings"
	"testing"

	"catchword/stem"
)

func TestMeasureP31(t *testing.T) {
	for w, want := range map[string]int{
		"": 0, "a": 0, "b": 0, "y": 0, "ab": 1, "ba": 0, "tr": 0, "ee": 0, "tree": 0, "by": 0,
		"trouble": 1, "oats": 1, "trees": 1, "ivy": 1, "troubles": 2, "private": 2, "oaten": 2, "orrery": 2,
		// A y is none as the first letter, and behind a vowel.
		"yt": 0, "syt": 1, "ay": 1, "ayy": 1, "ayyb": 2, "yy": 0, "yyy": 1, "yyyy": 1, "yyyyy": 2, "byyb": 1, "yay": 1,
		// Other letters are no vowels, but letters.
		"A": 0, "aB": 1, "EIb": 0, "a1": 1, "aé": 1, "éa": 0, "éab": 1, "éyb": 1, "ay\xffyb": 2, "\xff": 0, "a\x00": 1, "Yyb": 1, "a-a-a-": 3,
	} {
		if got := stem.Measure(w); got != want {
			t.Errorf("Measure of %q: %d, not %d", w, got, want)
		}
	}
	if got := stem.Measure(strings.Repeat("ab", 50000)); got != 50000 {
		t.Errorf("Measure of a long word: %d", got)
	}
}

func stems(t *testing.T, of map[string]string) {
	t.Helper()
	for w, want := range of {
		if got := stem.Stem(w); got != want {
			t.Errorf("Stem of %q: %q, not %q", w, got, want)
		}
	}
}

func TestStemLeavesOthersP32(t *testing.T) {
	for _, w := range []string{
		"", "s", "is", "as", "ed", "ly", "ll", "Cats", "caTs", "catS", "cats1", "1cats", "cat's", "cafés", "évents",
		"cats ", " cats", "\xffcats", "cats\xff", "cats\x00", "CATS", "`ats", "{ats", "cats`", "cats{",
	} {
		stems(t, map[string]string{w: w})
	}
}

func TestStemOfPluralsP32(t *testing.T) {
	stems(t, map[string]string{
		"caresses": "caress", "ponies": "poni", "ties": "ti", "cats": "cat", "caress": "caress",
		"ies": "i", "sses": "ss", "bus": "bu", "sss": "sss", "asses": "ass", "uses": "us",
	})
}

func TestStemOfPastsP32(t *testing.T) {
	stems(t, map[string]string{
		"feed": "feed", "agreed": "agre", "eed": "eed", "plastered": "plaster", "bled": "bled", "motoring": "motor",
		"sing": "sing", "ing": "ing", "conflated": "conflat", "troubled": "troubl", "sized": "size",
		"hopping": "hop", "tanned": "tan", "falling": "fall", "hissing": "hiss", "fizzed": "fizz",
		"failing": "fail", "filing": "file", "hoping": "hope", "snowing": "snow", "boxed": "box", "played": "plai",
		"freeing": "free", "agreeing": "agre", "byyed": "by", "crying": "cry", "yed": "yed", "yying": "yy",
	})
}

func TestStemOfYP32(t *testing.T) {
	stems(t, map[string]string{"happy": "happi", "sky": "sky", "say": "sai", "yyy": "yyi", "bys": "by", "why": "why", "ayy": "ayi"})
}

func TestStemOfLongEndsP32(t *testing.T) {
	stems(t, map[string]string{
		"relational": "relat", "conditional": "condit", "rational": "ration", "valenci": "valenc", "hesitanci": "hesit",
		"digitizer": "digit", "conformabli": "conform", "radicalli": "radic", "differentli": "differ", "vileli": "vile",
		"analogousli": "analog", "vietnamization": "vietnam", "predication": "predic", "operator": "oper",
		"feudalism": "feudal", "decisiveness": "decis", "hopefulness": "hope", "callousness": "callous",
		"formaliti": "formal", "sensitiviti": "sensit", "sensibiliti": "sensibl",
		// What is ahead measures nothing, and shorter ends are not asked.
		"national": "nation", "enci": "enci", "ational": "ation", "station": "station", "ization": "izat",
		"triplicate": "triplic", "formative": "form", "formalize": "formal", "electriciti": "electr",
		"electrical": "electr", "hopeful": "hope", "goodness": "good", "ness": "ness", "native": "nativ",
	})
}

func TestStemOfLastEndsP32(t *testing.T) {
	stems(t, map[string]string{
		"revival": "reviv", "allowance": "allow", "inference": "infer", "airliner": "airlin", "gyroscopic": "gyroscop",
		"adjustable": "adjust", "defensible": "defens", "irritant": "irrit", "replacement": "replac",
		"adjustment": "adjust", "dependent": "depend", "adoption": "adopt", "homologou": "homolog",
		"communism": "commun", "activate": "activ", "angulariti": "angular", "homologous": "homolog",
		"effective": "effect", "bowdlerize": "bowdler", "decision": "decis", "champion": "champion", "opinion": "opinion",
		"region": "region", "element": "element", "moment": "moment", "ion": "ion",
		"probate": "probat", "rate": "rate", "cease": "ceas", "controll": "control", "roll": "roll",
		"the": "the", "eee": "eee", "lll": "lll", "controlle": "control", "axe": "ax", "dye": "dye",
	})
}

// kinds has v for each vowel, and c for each other letter.
func kinds(w string) string {
	k := ""
	for i, r := range w {
		switch {
		case strings.ContainsRune("aeiou", r), r == 'y' && i > 0 && strings.HasSuffix(k, "c"):
			k += "v"
		default:
			k += "c"
		}
	}
	return k
}

func measured(w string) int { return strings.Count(kinds(w), "vc") }

func shortEnd(w string) bool {
	return strings.HasSuffix(kinds(w), "cvc") && !strings.ContainsAny(w[len(w)-1:], "wxy")
}

// The chapter's lists, as it writes them.
const (
	step2 = "ational: ate, tional: tion, enci: ence, anci: ance, izer: ize, abli: able, alli: al, entli: ent, eli: e, ousli: ous, ization: ize, ation: ate, ator: ate, alism: al, iveness: ive, fulness: ful, ousness: ous, aliti: al, iviti: ive, biliti: ble"
	step3 = "icate: ic, ative: , alize: al, iciti: ic, ical: ic, ful: , ness: "
	step4 = "al: , ance: , ence: , er: , ic: , able: , ible: , ant: , ement: , ment: , ent: , ou: , ism: , ate: , iti: , ous: , ive: , ize: "
)

func listed(w, list string, above int) string {
	for _, item := range strings.Split(list, ", ") {
		from, to, _ := strings.Cut(item, ": ")
		if strings.HasSuffix(w, from) {
			s := strings.TrimSuffix(w, from)
			if measured(s) > above {
				return s + to
			}
			break
		}
	}
	return w
}

// toldPast is step 1b.
func toldPast(w string) string {
	if strings.HasSuffix(w, "eed") {
		if measured(w[:len(w)-3]) > 0 {
			return w[:len(w)-1]
		}
		return w
	}
	for _, end := range []string{"ed", "ing"} {
		s := strings.TrimSuffix(w, end)
		if s == w {
			continue
		}
		k := kinds(s)
		n := len(s)
		switch {
		case !strings.Contains(k, "v"):
			return w
		case n > 1 && (s[n-2:] == "at" || s[n-2:] == "bl" || s[n-2:] == "iz"):
			return s + "e"
		case n > 1 && s[n-1] == s[n-2] && k[n-1] == 'c' && s[n-1] != 'l' && s[n-1] != 's' && s[n-1] != 'z':
			return s[:n-1]
		case measured(s) == 1 && shortEnd(s):
			return s + "e"
		}
		return s
	}
	return w
}

// told is a word's stem by the chapter, step by step.
func told(w string) string {
	if len(w) < 3 {
		return w
	}
	switch n := len(w); {
	case strings.HasSuffix(w, "sses"), strings.HasSuffix(w, "ies"):
		w = w[:n-2]
	case w[n-1] == 's' && w[n-2] != 's':
		w = w[:n-1]
	}
	w = toldPast(w)
	if n := len(w); strings.HasSuffix(w, "y") && strings.Contains(kinds(w[:n-1]), "v") {
		w = w[:n-1] + "i"
	}
	w = listed(listed(w, step2, 0), step3, 0)
	if s := strings.TrimSuffix(w, "ion"); s != w {
		if measured(s) > 1 && (strings.HasSuffix(s, "s") || strings.HasSuffix(s, "t")) {
			w = s
		}
	} else {
		w = listed(w, step4, 1)
	}
	if s := strings.TrimSuffix(w, "e"); s != w && (measured(s) > 1 || measured(s) == 1 && !shortEnd(s)) {
		w = s
	}
	if strings.HasSuffix(w, "ll") && measured(w[:len(w)-1]) > 1 {
		w = w[:len(w)-1]
	}
	return w
}

func TestStemOfShortWordsP32(t *testing.T) {
	// Every word of up to five of these letters.
	const letters = "aydesilnt"
	words := []string{""}
	for range 5 {
		var longer []string
		for _, w := range words {
			for _, r := range letters {
				longer = append(longer, w+string(r))
			}
		}
		for _, w := range longer {
			if got, want := stem.Stem(w), told(w); got != want {
				t.Fatalf("Stem of %q: %q, not %q", w, got, want)
			}
		}
		words = longer
	}
}

func TestStemOfManyWordsP32(t *testing.T) {
	var pieces []string
	for _, r := range "abcdefghijklmnopqrstuvwxyz" {
		pieces = append(pieces, string(r), string(r))
	}
	ends := []string{"sses", "ies", "ies", "eed", "ed", "ing", "s", "ss", "y", "ion", "sion", "tion", "e", "ll", "lle", "at", "bl", "iz", "yy"}
	for _, list := range []string{step2, step3, step4} {
		for _, item := range strings.Split(list, ", ") {
			from, _, _ := strings.Cut(item, ":")
			ends = append(ends, from)
		}
	}
	random := rand.New(rand.NewSource(3))
	for range 300000 {
		w := ""
		for range random.Intn(5) {
			w += pieces[random.Intn(len(pieces))]
		}
		for range 1 + random.Intn(3) {
			w += ends[random.Intn(len(ends))]
		}
		if got, want := stem.Stem(w), told(w); got != want {
			t.Fatalf("Stem of %q: %q, not %q", w, got, want)
		}
		if got, want := stem.Measure(w), measured(w); got != want {
			t.Fatalf("Measure of %q: %d, not %d", w, got, want)
		}
	}
}

func TestStemOfLongWordsP32(t *testing.T) {
	long := strings.Repeat("ab", 50000)
	stems(t, map[string]string{long + "ational": long, long + "ll": long + "l", strings.Repeat("y", 100001): strings.Repeat("y", 100000) + "i"})
}
