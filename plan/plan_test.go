package plan_test

import (
	"math"
	"math/big"
	"math/rand"
	"regexp"
	"slices"
	"strings"
	"testing"

	"catchword/api"
	"catchword/lang"
	"catchword/plan"
)

// text is Words of a text, of which nothing is said.
func text(s string) lang.Sel { return lang.Sel{Kind: lang.Words, Text: s, Weight: 1} }

// of is a part of some Kids.
func of(kind lang.Kind, kids ...lang.Sel) lang.Sel { return lang.Sel{Kind: kind, Kids: kids} }

// has is a question of one step, which has a part.
func has(s lang.Sel) []lang.Step { return []lang.Step{{Name: "a", Has: []lang.Sel{s}}} }

// fails checks that steps can't be asked, by which error.
func fails(t *testing.T, steps []lang.Step, want api.Errno) {
	t.Helper()
	made, e := plan.Make(steps)
	if e != want || len(made) > 0 {
		t.Errorf("%.300s: got %v and error %v, want error %v", lang.Text(steps), made, e, want)
	}
}

// makes is what is made of steps that can be asked.
func makes(t *testing.T, steps []lang.Step) []plan.Step {
	t.Helper()
	made, e := plan.Make(steps)
	if e != api.OK || len(made) != len(steps) {
		t.Fatalf("%.300s: got %v and error %v", lang.Text(steps), made, e)
	}
	return made
}

func TestMilliP141(t *testing.T) {
	if plan.MaxWeight != 1000 {
		t.Error(plan.MaxWeight)
	}
	for w, want := range map[float64]int{
		0: 0, math.Copysign(0, -1): 0, 1: 1000, 1.5: 1500, 2: 2000, 0.25: 250, 0.001: 1, 0.999: 999, 3.14159: 3142, 2.71828: 2718,
		plan.MaxWeight: 1000000, math.Nextafter(plan.MaxWeight, 0): 1000000, 999.9994: 999999, 999.9996: 1000000, 999.999: 999999,
		math.SmallestNonzeroFloat64: 0, 1e-300: 0, 0.0004: 0, 0.0006: 1,
		// Thousandths that end in a half, or just below it.
		0.0005: 1, 0.0625: 63, 0.1875: 188, 0.3125: 313, 0.4375: 438, 2.0625: 2063, 999.9375: 999938, 999.0625: 999063,
		math.Nextafter(0.0625, 0): 62, math.Nextafter(0.1875, 0): 187, math.Nextafter(2.0625, 0): 2062, math.Nextafter(0.0625, 1): 63,
		0.0004999: 0, 0.00049999: 0, 0.0624999: 62, 0.00050001: 1, 999.9374999: 999937,
	} {
		if n, e := plan.Milli(w); e != api.OK || n != want {
			t.Errorf("%v: got %d and error %v, want %d", w, n, e, want)
		}
	}
}

func TestMilliP141Range(t *testing.T) {
	for _, w := range []float64{
		math.NaN(), math.Float64frombits(math.Float64bits(math.NaN()) ^ 1<<63), math.Float64frombits(0x7ff0000000000001), math.Inf(1), math.Inf(-1),
		math.Nextafter(plan.MaxWeight, 2000), 1000.001, 1001, 1e6, 1e300, math.MaxFloat64, 1 << 20, 1 << 53,
		-math.SmallestNonzeroFloat64, -1e-300, -0.0001, -0.001, -0.5, -1, -1000, -math.MaxFloat64,
	} {
		if n, e := plan.Milli(w); e != api.ErrRange || n != 0 {
			t.Errorf("%v: got %d and error %v", w, n, e)
		}
	}
}

// thousandths reckons as float64s do, by numbers of as many bits: each step is rounded by itself.
func thousandths(w float64) int {
	reckoned := new(big.Float).SetPrec(53).SetMode(big.ToNearestEven)
	reckoned.Mul(big.NewFloat(w), big.NewFloat(1000))
	reckoned.Add(reckoned, big.NewFloat(0.5))
	whole, _ := reckoned.Int64()
	return int(whole)
}

func TestMilliP141Oracle(t *testing.T) {
	r := rand.New(rand.NewSource(141))
	check := func(w float64) {
		if n, e := plan.Milli(w); w >= 0 && w <= 1000 && (e != api.OK || n != thousandths(w)) {
			t.Fatalf("%v: got %d and error %v, want %d", w, n, e, thousandths(w))
		}
	}
	rounded := 0
	for range 30000 {
		check(r.Float64() * 1000)
		check(math.Exp(r.Float64()*20 - 14))
		half := (float64(r.Intn(1000000)) + 0.5) / 1000
		for _, w := range []float64{half, math.Nextafter(half, 0), math.Nextafter(half, 1000)} {
			check(w)
			exact := new(big.Float).SetPrec(200).Mul(big.NewFloat(w), big.NewFloat(1000))
			if whole, _ := exact.Add(exact, big.NewFloat(0.5)).Int64(); int(whole) != thousandths(w) {
				rounded++
			}
		}
	}
	if rounded < 1000 {
		t.Errorf("%d numbers that are rounded up or down to a half", rounded)
	}
}

// splits checks the words of a text, as a document's and as patterns.
func splits(t *testing.T, s string, tame, wild []string) {
	t.Helper()
	if got := plan.Split(s, false); !slices.Equal(got, tame) {
		t.Errorf("%q: got %q, want %q", s, got, tame)
	}
	if got := plan.Split(s, true); !slices.Equal(got, wild) {
		t.Errorf("%q, patterns: got %q, want %q", s, got, wild)
	}
}

func TestSplitP141(t *testing.T) {
	none := []string{}
	for _, s := range []string{"", " ", "\t", "\n", "\r", "    ", " \t\n\r", "\r\n\r\n\t "} {
		splits(t, s, none, none)
	}
	both := []string{"dog", "cat"}
	for _, gap := range []string{" ", "\t", "\n", "\r", "\r\n", "  ", " \t \n \r "} {
		splits(t, "dog"+gap+"cat", both, both)
		splits(t, gap+"dog"+gap+"cat"+gap, both, both)
		splits(t, gap+"dog", both[:1], both[:1])
		splits(t, "cat"+gap, both[1:], both[1:])
	}
	// Marks that are no blanks part words, but not patterns.
	for _, mark := range []string{".", "!", "?", ",", "-", "'", `"`, "/", "\\", "{", "(", "*", "\v", "\f", "\x00", "\x7f", "\x1f", "\u00a0", "\u2028", "\u3000"} {
		splits(t, "dog"+mark+"cat "+mark, both, []string{"dog" + mark + "cat", mark})
	}
	splits(t, "The dog's  r.+t{1,2}\t!", []string{"The", "dog", "s", "r", "t", "1", "2"}, []string{"The", "dog's", "r.+t{1,2}", "!"})
	splits(t, "Résumé naïve", []string{"Résumé", "naïve"}, []string{"Résumé", "naïve"})
	splits(t, "x x x", []string{"x", "x", "x"}, []string{"x", "x", "x"})
	// Bytes that are no signs part words; in patterns they stand as they are.
	splits(t, "a\xffb \xc3 \xed\xa0\x80", []string{"a", "b"}, []string{"a\xffb", "\xc3", "\xed\xa0\x80"})
}

func TestSplitP141Long(t *testing.T) {
	long := strings.Repeat("x", 500)
	splits(t, long+" y", []string{long[:80], "y"}, []string{long, "y"})
	many := plan.Split(strings.Repeat("a ", 100000), true)
	if len(many) != 100000 || many[0] != "a" || many[99999] != "a" {
		t.Error(len(many))
	}
}

func TestSplitP141Oracle(t *testing.T) {
	r := rand.New(rand.NewSource(1411))
	pieces := []string{" ", " ", "\t", "\n", "\r", "\v", "a", "b", "é", "\u00a0", ".", "{", "\\", "\xff", "\x85", "\x20", "Z"}
	between := regexp.MustCompile(`[^ \t\n\r]+`)
	for range 20000 {
		s := ""
		for range r.Intn(12) {
			s += pieces[r.Intn(len(pieces))]
		}
		var wild []string
		for _, at := range between.FindAllStringIndex(s, -1) {
			wild = append(wild, s[at[0]:at[1]])
		}
		if got := plan.Split(s, true); !slices.Equal(got, wild) {
			t.Fatalf("%q: got %q, want %q", s, got, wild)
		}
		letters := func(r rune) bool { return !strings.ContainsRune("abéZ", r) }
		if got, want := plan.Split(s, false), strings.FieldsFunc(s, letters); !slices.Equal(got, want) {
			t.Fatalf("%q: got %q, want %q", s, got, want)
		}
	}
}

// TestSplitP141Own writes over what was told.
func TestSplitP141Own(t *testing.T) {
	for _, wild := range []bool{false, true} {
		first := plan.Split("dog cat", wild)
		clear(first[:cap(first)])
		if again := plan.Split("dog cat", wild); !slices.Equal(again, []string{"dog", "cat"}) {
			t.Error(again)
		}
	}
}
