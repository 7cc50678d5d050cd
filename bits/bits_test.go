package bits

import (
	"bytes"
	"math"
	"pluvial/api"
	"slices"
	"strconv"
	"strings"
	"testing"
)

// The tests hold the package against texts of the letters 0 and 1.

// letters are the lowest bits of a number, the highest of them first.
func letters(n uint64, bits int) string {
	s := strings.Repeat("0", 64) + strconv.FormatUint(n, 2)
	return s[len(s)-bits:]
}

// inClass is a count laid in a class, also in one that isn't its own.
func inClass(n uint64, class int) string {
	s := strings.Repeat("1", class)
	if class < 6 {
		s += "0"
	}
	return s + letters(n, []int{0, 3, 7, 12, 20, 32, 64}[class])
}

// ownClass is the place of a count's class.
func ownClass(n uint64) int {
	switch {
	case n == 0:
		return 0
	case n < 1<<3:
		return 1
	case n < 1<<7:
		return 2
	case n < 1<<12:
		return 3
	case n < 1<<20:
		return 4
	case n < 1<<32:
		return 5
	}
	return 6
}

// written are the bits that were laid; what is left of the last byte must be 0.
func written(t *testing.T, w *Writer) string {
	t.Helper()
	s := ""
	for _, b := range w.Bytes() {
		s += letters(uint64(b), 8)
	}
	if len(s) != (w.Len()+7)/8*8 || strings.Contains(s[w.Len():], "1") {
		t.Fatalf("%d bits laid, but the bytes are %s", w.Len(), s)
	}
	return s[:w.Len()]
}

// pack are letters as bytes, with noughts at the end.
func pack(s string) []byte {
	var b []byte
	for len(s) > 0 {
		one := (s + "0000000")[:8]
		n, _ := strconv.ParseUint(one, 2, 8)
		b = append(b, byte(n))
		s = s[min(8, len(s)):]
	}
	return b
}

// after is a writer, and a reader, some bits behind the beginning.
func after(bits int) *Writer {
	var w Writer
	w.Put(0b1011001, bits)
	return &w
}

func edges() []uint64 {
	l := []uint64{0, 2, 5, 0x0123456789abcdef, 0xfedcba9876543210, 0xaaaaaaaaaaaaaaaa, math.MaxUint64 - 1, math.MaxUint64}
	for bits := range 64 {
		l = append(l, 1<<bits, 1<<bits-1, 1<<bits+1)
	}
	return l
}

// P2.1

func TestBit(t *testing.T) {
	var w Writer
	want := ""
	for i := range 40 {
		b := i%3 == 0 || i%7 == 2
		w.Bit(b)
		if b {
			want += "1"
		} else {
			want += "0"
		}
		if got := written(t, &w); got != want || w.Len() != i+1 {
			t.Fatalf("%d bits: %s; want %s", w.Len(), got, want)
		}
	}
}

func TestHighestFirst(t *testing.T) {
	var w Writer
	w.Bit(true)
	if b := w.Bytes(); w.Len() != 1 || !bytes.Equal(b, []byte{0x80}) {
		t.Error(w.Len(), b)
	}
	w.Put(0b10, 2)
	if b := w.Bytes(); w.Len() != 3 || !bytes.Equal(b, []byte{0xc0}) {
		t.Error(w.Len(), b)
	}
	w.Put(0x123, 12)
	if b := w.Bytes(); w.Len() != 15 || !bytes.Equal(b, []byte{0xc2, 0x46}) {
		t.Error(w.Len(), b)
	}
}

func TestPut(t *testing.T) {
	for shift := range 8 {
		for bits := range 65 {
			for _, n := range edges() {
				w := after(shift)
				w.Put(n, bits)
				if got, want := written(t, w), letters(0b1011001, shift)+letters(n, bits); got != want {
					t.Fatalf("Put(%d, %d) behind %d bits: %s; want %s", n, bits, shift, got, want)
				}
			}
		}
	}
}

func TestPutOtherCounts(t *testing.T) {
	const n = 0xfedcba9876543211
	for _, bits := range []int{-1, -2, -64, math.MinInt} {
		w := after(5)
		w.Put(n, bits)
		if w.Len() != 5 {
			t.Errorf("Put of %d bits laid %d", bits, w.Len()-5)
		}
	}
	for _, bits := range []int{65, 66, 128, 1 << 32, math.MaxInt} {
		w := after(5)
		w.Put(n, bits)
		if got, want := written(t, w), letters(0b1011001, 5)+letters(n, 64); got != want {
			t.Errorf("Put of %d bits: %s; want %s", bits, got, want)
		}
	}
}

func TestCount(t *testing.T) {
	for shift := range 8 {
		for _, n := range edges() {
			w := after(shift)
			w.Count(n)
			if got, want := written(t, w)[shift:], inClass(n, ownClass(n)); got != want {
				t.Fatalf("Count(%d): %s; want %s", n, got, want)
			}
		}
	}
}

// Both ends of each class, by their texts.
func TestCountTold(t *testing.T) {
	one, nought := strings.Repeat("1", 64), strings.Repeat("0", 64)
	for _, c := range []struct {
		n    uint64
		want string
	}{
		{0, "0"},
		{1, "10001"},
		{5, "10101"},
		{1<<3 - 1, "10111"},
		{1 << 3, "1100001000"},
		{1<<7 - 1, "1101111111"},
		{1 << 7, "1110000010000000"},
		{1<<12 - 1, "1110111111111111"},
		{1 << 12, "11110" + "00000001" + nought[:12]},
		{1<<20 - 1, "11110" + one[:20]},
		{1 << 20, "111110" + "000000000001" + nought[:20]},
		{1<<32 - 1, "111110" + one[:32]},
		{1 << 32, "111111" + nought[:31] + "1" + nought[:32]},
		{math.MaxUint64, "111111" + one},
	} {
		var w Writer
		w.Count(c.n)
		if got := written(t, &w); got != c.want {
			t.Errorf("Count(%d): %s; want %s", c.n, got, c.want)
		}
		r := Read(pack(c.want))
		if got := r.Count(); got != c.n || r.End() != api.OK {
			t.Errorf("%s: %d, %d; want %d", c.want, got, r.End(), c.n)
		}
	}
}

func TestInt(t *testing.T) {
	for _, c := range []struct {
		n   int64
		zig uint64
	}{
		{0, 0}, {-1, 1}, {1, 2}, {-4, 7}, {4, 8}, {math.MaxInt64, math.MaxUint64 - 1}, {math.MinInt64, math.MaxUint64},
	} {
		var w Writer
		w.Int(c.n)
		if got, want := written(t, &w), inClass(c.zig, ownClass(c.zig)); got != want {
			t.Errorf("Int(%d): %s; want %s", c.n, got, want)
		}
		r := Read(w.Bytes())
		if got := r.Int(); got != c.n || r.End() != api.OK {
			t.Errorf("Int() = %d, %d; want %d", got, r.End(), c.n)
		}
	}
}

func TestEmptyWriter(t *testing.T) {
	var w Writer
	w.Put(7, 0)
	if w.Len() != 0 || len(w.Bytes()) != 0 {
		t.Error(w.Len(), w.Bytes())
	}
}

// What was handed out stays as it is, and what is done to it is not seen.
func TestBytesAreNew(t *testing.T) {
	var w Writer
	w.Put(0b101, 3)
	first := w.Bytes()
	w.Put(0x1f, 5)
	second := w.Bytes()
	second[0] = 0
	_ = append(second[:0], 9, 9, 9)
	w.Bit(true)
	if !bytes.Equal(first, []byte{0xa0}) || !bytes.Equal(w.Bytes(), []byte{0xbf, 0x80}) {
		t.Error(first, w.Bytes())
	}
}

// P2.2

func TestGet(t *testing.T) {
	for shift := range 8 {
		for bits := range 65 {
			for _, n := range edges() {
				r := Read(pack(letters(0b1011001, shift) + letters(n, bits)))
				if got, want := r.Get(shift), uint64(0b1011001)&(1<<shift-1); got != want {
					t.Fatalf("Get(%d) = %b; want %b", shift, got, want)
				}
				want := n
				if bits < 64 {
					want = n & (1<<bits - 1)
				}
				if got := r.Get(bits); got != want || r.End() != api.OK {
					t.Fatalf("Get(%d) behind %d bits = %b, %d; want %b", bits, shift, got, r.End(), want)
				}
			}
		}
	}
}

func TestGetOtherCounts(t *testing.T) {
	b := []byte{0xfe, 0xdc, 0xba, 0x98, 0x76, 0x54, 0x32, 0x11, 0xff}
	for _, bits := range []int{0, -1, -2, -64, math.MinInt} {
		r := Read(b)
		if n := r.Get(bits); n != 0 || r.Left() != 72 || r.Err() != api.OK {
			t.Errorf("Get(%d) = %d, %d left, %d", bits, n, r.Left(), r.Err())
		}
	}
	for _, bits := range []int{65, 66, 128, 1 << 32, math.MaxInt} {
		r := Read(b)
		if n := r.Get(bits); n != 0xfedcba9876543211 || r.Left() != 8 || r.Err() != api.OK {
			t.Errorf("Get(%d) = %x, %d left, %d", bits, n, r.Left(), r.Err())
		}
	}
	r := Read(nil)
	if r.Get(0) != 0 || r.Get(-5) != 0 || r.Err() != api.OK {
		t.Error("no bits of nothing", r.Err())
	}
}

func TestReadBit(t *testing.T) {
	r := Read([]byte{0xa5, 0x80})
	for i, want := range "1010010110000000" {
		if r.Left() != 16-i {
			t.Errorf("%d left of %d", r.Left(), 16-i)
		}
		if got := r.Bit(); got != (want == '1') {
			t.Errorf("bit %d is %t", i, got)
		}
	}
	if r.Err() != api.OK || r.Bit() || r.Err() != api.ErrShort {
		t.Error(r.Err())
	}
}

func TestReadKeepsItsOwn(t *testing.T) {
	room := []byte{0xff, 0x0f, 0xee}
	b := room[:2]
	r := Read(b)
	b[0], b[1] = 0, 0
	if n := r.Get(16); n != 0xff0f {
		t.Errorf("%x", n)
	}
	if r.Left() != 0 || room[2] != 0xee {
		t.Error(r.Left(), room)
	}
}

// spent asserts that a reader goes on as one does by which something was wrong.
func spent(t *testing.T, r *Reader, e api.Errno, left int) {
	t.Helper()
	for range 2 {
		if r.Bit() || r.Get(1) != 0 || r.Get(0) != 0 || r.Count() != 0 || r.Int() != 0 || r.Small(1<<40) != 0 || r.Small(-1) != 0 || r.Get(64) != 0 {
			t.Error("something is taken behind what was wrong")
		}
		if r.Err() != e || r.End() != e || r.Left() != left {
			t.Errorf("Err %d, End %d, %d left; want %d, %d left", r.Err(), r.End(), r.Left(), e, left)
		}
	}
}

func TestGetShort(t *testing.T) {
	for bytes := range 9 {
		for bits := bytes*8 + 1; bits <= 64; bits++ {
			r := Read(slices.Repeat([]byte{0xff}, bytes))
			if n := r.Get(bits); n != 0 {
				t.Errorf("Get(%d) of %d bytes = %d", bits, bytes, n)
			}
			spent(t, r, api.ErrShort, bytes*8)
		}
	}
	r := Read([]byte{0xff})
	r.Get(3)
	if r.Get(6) != 0 {
		t.Error("six of five")
	}
	spent(t, r, api.ErrShort, 5)
}

// Of each class, counts whose bits end too early, wherever that is.
func TestCountShort(t *testing.T) {
	for _, n := range []uint64{7, 127, 1<<12 - 1, 1<<20 - 1, 1<<32 - 1, math.MaxUint64} {
		s := inClass(n, ownClass(n))
		for early := 1; early <= len(s); early++ {
			// Bits 1 ahead fill what a byte has more.
			short := s[:len(s)-early]
			ahead := (8 - len(short)%8) % 8
			b := pack(strings.Repeat("1", ahead) + short)
			for kind, take := range takes() {
				r := Read(b)
				r.Get(ahead)
				if !take(r) {
					t.Errorf("%s: %s takes something of %q", s, kind, short)
				}
				spent(t, r, api.ErrShort, len(short))
			}
		}
	}
}

// takes are the calls that take a count; whether they answer 0.
func takes() map[string]func(r *Reader) bool {
	return map[string]func(r *Reader) bool{
		"Count":       func(r *Reader) bool { return r.Count() == 0 },
		"Int":         func(r *Reader) bool { return r.Int() == 0 },
		"Small":       func(r *Reader) bool { return r.Small(math.MaxInt) == 0 },
		"Small of -1": func(r *Reader) bool { return r.Small(-1) == 0 },
	}
}

// A count in each class that is longer than its own.
func TestCountTooLong(t *testing.T) {
	for _, n := range edges() {
		for class := ownClass(n) + 1; class <= 6; class++ {
			b := append(pack("101"+inClass(n, class)), 0xff)
			for kind, take := range takes() {
				r := Read(b)
				r.Get(3)
				left := r.Left()
				if !take(r) {
					t.Errorf("%s takes %d laid in class %d", kind, n, class)
				}
				spent(t, r, api.ErrForm, left)
			}
		}
	}
}

func TestSmall(t *testing.T) {
	for _, n := range edges() {
		var w Writer
		w.Count(n)
		for _, most := range []uint64{0, 1, 2, 7, 8, 512, 1 << 20, 1 << 40, math.MaxInt, n - 1, n, n + 1} {
			if most > math.MaxInt {
				continue
			}
			r := Read(w.Bytes())
			left := r.Left()
			got := r.Small(int(most))
			if n > most {
				if got != 0 {
					t.Errorf("Small(%d) of %d = %d", most, n, got)
				}
				spent(t, r, api.ErrLimit, left)
			} else if uint64(got) != n || r.End() != api.OK {
				t.Errorf("Small(%d) of %d = %d, %d", most, n, got, r.End())
			}
		}
		for _, most := range []int{-1, -2, math.MinInt} {
			r := Read(w.Bytes())
			left := r.Left()
			if got := r.Small(most); got != 0 {
				t.Errorf("Small(%d) of %d = %d", most, n, got)
			}
			spent(t, r, api.ErrLimit, left)
		}
	}
}

// What was wrong first stays.
func TestFirstWrong(t *testing.T) {
	r := Read(pack(inClass(9, 2) + inClass(1, 2)))
	r.Small(8)
	spent(t, r, api.ErrLimit, 24)
	r = Read(pack(inClass(1, 2) + inClass(9, 2)))
	r.Count()
	r.Small(8)
	r.Get(64)
	spent(t, r, api.ErrForm, 24)
	r = Read(pack(inClass(9, 2)))
	r.Get(17)
	r.Small(8)
	spent(t, r, api.ErrShort, 16)
}

func TestLeft(t *testing.T) {
	var w Writer
	w.Put(5, 3)
	w.Count(100)
	w.Int(-3)
	w.Count(2)
	w.Bit(true)
	r := Read(w.Bytes())
	for _, step := range []struct {
		take func()
		bits int
	}{
		{func() {}, 0},
		{func() { r.Get(3) }, 3},
		{func() { r.Count() }, 10},
		{func() { r.Int() }, 5},
		{func() { r.Small(2) }, 5},
		{func() { r.Bit() }, 1},
	} {
		left := r.Left()
		if step.take(); r.Left() != left-step.bits {
			t.Errorf("%d left of %d behind %d bits", r.Left(), left, step.bits)
		}
	}
	if Read([]byte{1, 2, 3}).Left() != 24 || Read(nil).Left() != 0 {
		t.Error("how many bits bytes have")
	}
}

func TestEnd(t *testing.T) {
	for taken := range 25 {
		left := 24 - taken
		want := api.OK
		if left >= 8 {
			want = api.ErrForm
		}
		r := Read(pack(strings.Repeat("1", taken) + strings.Repeat("0", left)))
		r.Get(taken)
		if e := r.End(); e != want {
			t.Errorf("End with %d noughts left: %d; want %d", left, e, want)
		}
		for one := range left {
			rest := strings.Repeat("0", one) + "1" + strings.Repeat("0", left-one-1)
			r := Read(pack(strings.Repeat("1", taken) + rest))
			r.Get(taken)
			if e := r.End(); e != api.ErrForm {
				t.Errorf("End with %s left: %d", rest, e)
			}
			// Asking for the end takes nothing.
			if r.Err() != api.OK || r.Left() != left {
				t.Errorf("behind End: %d, %d left of %d", r.Err(), r.Left(), left)
			}
			if r.Get(one) != 0 || !r.Bit() || r.Get(left-one-1) != 0 || r.End() != api.OK {
				t.Errorf("behind End %s is not taken", rest)
			}
		}
	}
	for _, b := range [][]byte{nil, {}} {
		if e := Read(b).End(); e != api.OK {
			t.Error("nothing", e)
		}
	}
	if e := Read([]byte{0}).End(); e != api.ErrForm {
		t.Error("a byte", e)
	}
}

// P2.3

// same tells whether what was laid by a bit, 9 bits, a count, and two whole numbers is taken so.
func same(t *testing.T, n, m uint64) {
	t.Helper()
	var w Writer
	w.Bit(n%2 == 1)
	w.Count(n)
	w.Put(m, 9)
	w.Int(int64(m))
	w.Int(int64(n))
	w.Count(m)
	w.Bit(true)
	r := Read(w.Bytes())
	if r.Bit() != (n%2 == 1) || r.Count() != n || r.Get(9) != m%512 || r.Int() != int64(m) || r.Int() != int64(n) || r.Count() != m || !r.Bit() {
		t.Fatalf("%d, %d are taken otherwise", n, m)
	}
	if r.Err() != api.OK || r.End() != api.OK || r.Left() != (8-w.Len()%8)%8 {
		t.Fatalf("%d, %d: %d, %d, %d left", n, m, r.Err(), r.End(), r.Left())
	}
}

func TestTakenAsLaid(t *testing.T) {
	for _, n := range edges() {
		for _, m := range edges() {
			same(t, n, m)
		}
	}
}

// Whatever bits a count is taken from, it is laid by just these.
func TestBitsOfOneNumberAlone(t *testing.T) {
	for n := range 1 << 16 {
		b := []byte{byte(n >> 8), byte(n)}
		r := Read(b)
		k := r.Count()
		if r.Err() != api.OK {
			continue
		}
		var w Writer
		w.Count(k)
		if got, want := written(t, &w), letters(uint64(n), 16)[:16-r.Left()]; got != want {
			t.Fatalf("%s is taken as %d, that is laid as %s", want, k, got)
		}
	}
}

// Unlike lists of counts have unlike bits.
func TestUnlikeLists(t *testing.T) {
	l := []uint64{0, 1, 7, 8, 127, 128, 1<<12 - 1, 1 << 12, 1 << 20, 1 << 32, math.MaxUint64}
	seen := map[string]bool{}
	lay := func(l ...uint64) {
		var w Writer
		for _, n := range l {
			w.Count(n)
		}
		s := written(t, &w)
		if seen[s] {
			t.Errorf("%d has the bits %s of another list", l, s)
		}
		seen[s] = true
	}
	for _, a := range l {
		lay(a)
		for _, b := range l {
			lay(a, b)
			for _, c := range l {
				lay(a, b, c)
			}
		}
	}
}

// R1: nil objects answer ErrNil, and nothing else.

func TestNilWriter(t *testing.T) {
	var w *Writer
	w.Bit(true)
	w.Put(5, 3)
	w.Count(9)
	w.Int(-9)
	if w.Len() != 0 || len(w.Bytes()) != 0 {
		t.Error(w.Len(), w.Bytes())
	}
}

func TestNilReader(t *testing.T) {
	var r *Reader
	spent(t, r, api.ErrNil, 0)
}

// No one but this package makes a reader: of a zero one it is promised that nothing panics.
func TestZeroReader(t *testing.T) {
	var r Reader
	r.Bit()
	r.Count()
	r.Int()
	r.Small(3)
	r.Get(9)
	r.Left()
	r.End()
}
