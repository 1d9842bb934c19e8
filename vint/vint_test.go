package vint_test

import (
	"bytes"
	"hash/crc32"
	"math"
	"strings"
	"testing"

	"catchword/api"
	"catchword/vint"
)

// forms are numbers on both sides of each change of length that fits, with their bytes.
var forms = []struct {
	n uint64
	b string
}{
	{0, "\x00"},
	{1, "\x01"},
	{0x7f, "\x7f"},
	{0x80, "\x81\x00"},
	{300, "\x82\x2c"},
	{1<<14 - 1, "\xff\x7f"},
	{1 << 14, "\x81\x80\x00"},
	{1<<21 - 1, "\xff\xff\x7f"},
	{1 << 21, "\x81\x80\x80\x00"},
	{1<<56 - 1, "\xff\xff\xff\xff\xff\xff\xff\x7f"},
	{1 << 56, "\x81\x80\x80\x80\x80\x80\x80\x80\x00"},
	{1<<63 - 1, "\xff\xff\xff\xff\xff\xff\xff\xff\x7f"},
	{1 << 63, "\x81\x80\x80\x80\x80\x80\x80\x80\x80\x00"},
	{1<<64 - 1, "\x81\xff\xff\xff\xff\xff\xff\xff\xff\x7f"},
}

func TestPutP11(t *testing.T) {
	for _, f := range forms {
		if got := string(vint.Put(nil, f.n)); got != f.b {
			t.Errorf("Put of %d: %x, not %x", f.n, got, f.b)
		}
		if got := string(vint.Put([]byte("ab"), f.n)); got != "ab"+f.b {
			t.Errorf("Put of %d behind ab: %x", f.n, got)
		}
	}
}

func TestGetP11(t *testing.T) {
	for _, f := range forms {
		for _, behind := range []string{"", "\x00", "\x80", "\xff\xff"} {
			if n, k := vint.Get([]byte(f.b + behind)); n != f.n || k != len(f.b) {
				t.Errorf("Get of %x: %d, %d", f.b+behind, n, k)
			}
		}
	}
}

func TestGetOfEveryLengthP11(t *testing.T) {
	for shift := range 64 {
		for _, n := range []uint64{1 << shift, 1<<shift - 1, 1<<shift + 1, 3 << shift, math.MaxUint64 >> shift} {
			b := vint.Put(nil, n)
			for short := range 10 {
				if fits := n>>(7*(short+1)) == 0; fits != (len(b) <= short+1) {
					t.Fatalf("%d in %d bytes", n, len(b))
				}
			}
			if m, k := vint.Get(b); m != n || k != len(b) {
				t.Fatalf("%d: %d, %d", n, m, k)
			}
		}
	}
}

func TestGetOfNoNumberP11(t *testing.T) {
	wrong := []string{
		"",
		"\x80", "\x80\x00", "\x80\x01", "\x80\x80\x01",
		"\x81", "\xff", "\x81\x80", "\xff\xff\xff",
		"\x82\x80\x80\x80\x80\x80\x80\x80\x80\x00",
		"\xff\xff\xff\xff\xff\xff\xff\xff\xff\x7f",
		"\x81\x80\x80\x80\x80\x80\x80\x80\x80\x80\x00",
		"\x81\x80\x80\x80\x80\x80\x80\x80\x80\x80",
		strings.Repeat("\x81", 100) + "\x01",
		strings.Repeat("\x80", 100) + "\x01",
	}
	for _, f := range forms {
		wrong = append(wrong, f.b[:len(f.b)-1])
	}
	for _, s := range wrong {
		if n, k := vint.Get([]byte(s)); n != 0 || k != 0 {
			t.Errorf("Get of %x: %d, %d", s, n, k)
		}
	}
}

func TestGetTakesNoSecondFormP11(t *testing.T) {
	for first := range 256 {
		for second := range 256 {
			b := []byte{byte(first), byte(second)}
			n, k := vint.Get(b)
			if k > 0 && !bytes.Equal(vint.Put(nil, n), b[:k]) {
				t.Fatalf("%x is %d, in other bytes", b, n)
			}
		}
	}
}

func TestTextP11(t *testing.T) {
	long := strings.Repeat("x", 300)
	for s, want := range map[string]string{"": "\x00", "abc": "\x03abc", "\x00\xff": "\x02\x00\xff", long: "\x82\x2c" + long} {
		if got := string(vint.Text(nil, s)); got != want {
			t.Errorf("Text of %q: %x", s, got)
		}
		if got := string(vint.Text([]byte{7}, s)); got != "\x07"+want {
			t.Errorf("Text of %q behind 7: %x", s, got)
		}
	}
}

func TestReaderP12(t *testing.T) {
	b := vint.Put(nil, 5)
	b = vint.Text(b, "")
	b = vint.Text(b, "abc")
	b = vint.Put(b, 300)
	r := vint.Read(b)
	if r.Left() != len(b) || r.Err() != api.OK || r.End() != api.ErrForm {
		t.Error("at the beginning:", r.Left(), r.Err(), r.End())
	}
	if n := r.Num(5); n != 5 || r.Left() != len(b)-1 {
		t.Error(n, r.Left())
	}
	if s := r.Text(0); s != "" || r.Err() != api.OK || r.Left() != len(b)-2 {
		t.Error(s, r.Err(), r.Left())
	}
	if s := r.Text(3); s != "abc" || r.Left() != 2 {
		t.Error(s, r.Left())
	}
	if n := r.Num(math.MaxInt); n != 300 || r.Left() != 0 || r.Err() != api.OK || r.End() != api.OK {
		t.Error(n, r.Left(), r.Err(), r.End())
	}
	if n := r.Num(9); n != 0 || r.Err() != api.ErrForm || r.End() != api.ErrForm {
		t.Error("behind the end:", n, r.Err(), r.End())
	}
}

func TestReaderEndNotesNothingP12(t *testing.T) {
	r := vint.Read([]byte{7})
	if r.End() != api.ErrForm || r.Err() != api.OK || r.Num(7) != 7 || r.End() != api.OK {
		t.Error("End of what is left has noted an error")
	}
}

func TestReaderMostP12(t *testing.T) {
	for _, c := range []struct {
		b    string
		most int
		want int
		err  api.Errno
	}{
		{"\x00", 0, 0, api.OK},
		{"\x00", -1, 0, api.OK},
		{"\x00", math.MinInt, 0, api.OK},
		{"\x01", 0, 0, api.ErrForm},
		{"\x01", -1, 0, api.ErrForm},
		{"\x07", 7, 7, api.OK},
		{"\x07", 6, 0, api.ErrForm},
		{"\xff\xff\xff\xff\xff\xff\xff\xff\x7f", math.MaxInt, math.MaxInt, api.OK},
		{"\x81\x80\x80\x80\x80\x80\x80\x80\x80\x00", math.MaxInt, 0, api.ErrForm},
		{"\x81\xff\xff\xff\xff\xff\xff\xff\xff\x7f", -1, 0, api.ErrForm},
		{"", 9, 0, api.ErrForm},
		{"\x80\x01", 9, 0, api.ErrForm},
		{"\x81", 9, 0, api.ErrForm},
	} {
		r := vint.Read([]byte(c.b))
		if n := r.Num(c.most); n != c.want || r.Err() != c.err || r.End() != c.err {
			t.Errorf("Num of %x, %d: %d, %d, %d", c.b, c.most, n, r.Err(), r.End())
		}
	}
}

func TestReaderTextP12(t *testing.T) {
	for _, c := range []struct {
		b    string
		most int
		want string
		err  api.Errno
	}{
		{"\x03abc", 3, "abc", api.OK},
		{"\x00", -5, "", api.OK},
		{"\x03abc", 2, "", api.ErrForm},
		{"\x01a", -5, "", api.ErrForm},
		{"\x03ab", 3, "", api.ErrForm},
		{"\x03", 3, "", api.ErrForm},
		{"", 3, "", api.ErrForm},
		{"\x80\x03abc", 3, "", api.ErrForm},
		{"\xff\xff\xff\xff\xff\xff\xff\xff\x7fabc", math.MaxInt, "", api.ErrForm},
	} {
		r := vint.Read([]byte(c.b))
		if s := r.Text(c.most); s != c.want || r.Err() != c.err || r.End() != c.err {
			t.Errorf("Text of %x, %d: %q, %d, %d", c.b, c.most, s, r.Err(), r.End())
		}
	}
}

func TestReaderBehindAnErrorP12(t *testing.T) {
	for _, fail := range []func(*vint.Reader){
		func(r *vint.Reader) { r.Num(6) },
		func(r *vint.Reader) { r.Text(6) },
		func(r *vint.Reader) { r.Text(7) },
	} {
		r := vint.Read([]byte("\x07\x01\x01"))
		fail(r)
		left := r.Left()
		if n, s := r.Num(9), r.Text(9); n != 0 || s != "" || r.Err() != api.ErrForm || r.End() != api.ErrForm {
			t.Error(n, s, r.Err(), r.End())
		}
		if r.Left() != left {
			t.Error("it reads on behind an error")
		}
	}
}

func TestReaderLeftAtAnErrorP12(t *testing.T) {
	r := vint.Read([]byte("\x07ab"))
	if r.Num(6); r.Left() != 3 {
		t.Error("a number that is too great counts as read:", r.Left())
	}
	r = vint.Read([]byte("\x07ab"))
	if r.Text(7); r.Left() != 2 {
		t.Error("the number ahead of a text that is cut off:", r.Left())
	}
}

func TestNilReaderP12(t *testing.T) {
	var r *vint.Reader
	if r.Num(9) != 0 || r.Text(9) != "" || r.Left() != 0 || r.Err() != api.ErrForm || r.End() != api.ErrForm {
		t.Error("nil")
	}
	if r := vint.Read(nil); r.Left() != 0 || r.Err() != api.OK || r.End() != api.OK {
		t.Error("of no bytes")
	}
}

func TestReaderKeepsNoBytesP12(t *testing.T) {
	b := []byte("\x03abc\x05")
	r := vint.Read(b)
	clear(b)
	if r.Text(3) != "abc" || r.Num(5) != 5 {
		t.Error("the reader changes with the bytes that were handed in")
	}
}

func TestSumP13(t *testing.T) {
	for s, want := range map[string]uint32{"": 0, "a": 0xe8b7be43, "123456789": 0xcbf43926, "\x00\x00\x00\x00": 0x2144df1c, "\xff\xff\xff\xff": 0xffffffff} {
		if got := vint.Sum([]byte(s)); got != want {
			t.Errorf("Sum of %q: %x, not %x", s, got, want)
		}
	}
	for c := range 256 {
		b := []byte{byte(c)}
		for range 40 {
			if got, want := vint.Sum(b), crc32.ChecksumIEEE(b); got != want {
				t.Fatalf("Sum of %x: %x, not %x", b, got, want)
			}
			b = append(b, byte(len(b)*c+1))
		}
	}
}

func TestSumTellsBurstsP13(t *testing.T) {
	b := []byte("twelve bytes")
	want := vint.Sum(b)
	for at := range len(b)*8 - 31 {
		for _, turn := range []uint32{1, 1 << 31, 0x80000001, 0xffffffff, 0xedb88320, 0x04c11db7, 0x55555555} {
			other := bytes.Clone(b)
			for i := range 32 {
				place := at + i
				other[place/8] ^= byte(turn>>i&1) << (place % 8)
			}
			if vint.Sum(other) == want {
				t.Fatalf("bits %x turned at %d: the same sum", turn, at)
			}
		}
	}
}
