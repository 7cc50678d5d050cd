package parts

import (
	"bytes"
	"pluvial/api"
	"pluvial/bits"
	"pluvial/chunk"
	"slices"
	"strings"
	"testing"
)

// What layers 15 and 16 lay by these is held against letters in their own tests; here it is that what is laid is taken as it was, and that other bits are refused.

// layCount and takeCount lay and take a number.
func layCount(w *bits.Writer, n uint64) { w.Count(n) }

func takeCount(r *bits.Reader) (uint64, bool) { return r.Count(), true }

// laid are the bytes of what is laid.
func laid(lay func(*bits.Writer)) []byte {
	var w bits.Writer
	lay(&w)
	return w.Bytes()
}

// samples are so many of one counter, by rising times.
func samples(long int) []api.Sample {
	var l []api.Sample
	for i := range long {
		l = append(l, api.Sample{T: int64(3 * i), H: api.Hist{ZeroAt: api.NoZero, Zero: 2, Count: 2}})
	}
	return l
}

func sameTimes(a, b []api.Sample) bool {
	return slices.EqualFunc(a, b, func(x, y api.Sample) bool { return x.T == y.T && x.H.Zero == y.H.Zero })
}

func TestLists(t *testing.T) {
	for _, l := range [][]uint64{nil, {0}, {5, 0, 1 << 40}, slices.Repeat([]uint64{7}, 100)} {
		b := laid(func(w *bits.Writer) { LayList(w, l, layCount) })
		for most := range 200 {
			r := bits.Read(b)
			got, ok := TakeList(r, most, takeCount)
			if want := len(l) <= most; ok != want || ok && !slices.Equal(got, l) || !ok && (len(got) != 0 || r.Err() != api.ErrLimit) {
				t.Errorf("of %v at most %d are %v, %t", l, most, got, ok)
			}
		}
	}
	// One that is none ends it, and so do bytes that end.
	b := laid(func(w *bits.Writer) { LayList(w, []uint64{1, 2, 3}, layCount) })
	calls := 0
	got, ok := TakeList(bits.Read(b), 9, func(r *bits.Reader) (uint64, bool) { calls++; return r.Count(), calls < 2 })
	if ok || len(got) != 0 || calls != 2 {
		t.Errorf("behind one that is none: %v, %t, %d calls", got, ok, calls)
	}
	calls = 0
	b = laid(func(w *bits.Writer) { w.Count(1 << 40) })
	got, ok = TakeList(bits.Read(b), 1<<41, func(r *bits.Reader) (uint64, bool) { calls++; return r.Get(64), true })
	if ok || len(got) != 0 || calls != 1 {
		t.Errorf("behind the end: %v, %t, %d calls", got, ok, calls)
	}
}

func TestTexts(t *testing.T) {
	for _, s := range []string{"", "a", "\x00\xff\n", strings.Repeat("long", 1000)} {
		b := laid(func(w *bits.Writer) { w.Bit(true); LayText(w, s) })
		r := bits.Read(b)
		r.Bit()
		if got, ok := TakeText(r); got != s || !ok || r.End() != api.OK {
			t.Errorf("%q is taken as %q, %t", s, got, ok)
		}
		if got, ok := TakeText(bits.Read(b[:len(b)-1])); got != "" || ok {
			t.Errorf("a byte less of %q: %q, %t", s, got, ok)
		}
	}
}

func TestSamples(t *testing.T) {
	for _, long := range []int{0, 1, 32, 33, 100} {
		l := samples(long)
		b := laid(func(w *bits.Writer) { LaySamples(w, l) })
		if got, ok := TakeSamples(bits.Read(b)); !sameTimes(got, l) || !ok {
			t.Errorf("%d samples are taken as %v, %t", long, got, ok)
		}
		if n := bits.Read(b).Count(); n != uint64(len(chunk.Cut(l))) {
			t.Errorf("%d samples are %d chunks", long, n)
		}
		if long == 0 {
			continue
		}
		if got, ok := TakeSamples(bits.Read(b[:len(b)-1])); len(got) != 0 || ok {
			t.Errorf("a byte less of %d samples: %v, %t", long, got, ok)
		}
	}
	b := laid(func(w *bits.Writer) { LayList(w, []string{"abc"}, LayText) })
	if got, ok := TakeSamples(bits.Read(b)); len(got) != 0 || ok {
		t.Errorf("no chunk is taken as %v", got)
	}
}

func TestWhole(t *testing.T) {
	// A number that may be, if it is even.
	write := func(n uint64) ([]byte, api.Errno) {
		if n%2 == 1 {
			return nil, api.ErrRange
		}
		return laid(func(w *bits.Writer) { w.Count(n) }), api.OK
	}
	b, _ := write(200)
	if n, e := Whole(b, takeCount, write); n != 200 || e != api.OK {
		t.Errorf("200 is read as %d, %d", n, e)
	}
	odd := laid(func(w *bits.Writer) { w.Count(201) })
	for _, wrong := range [][]byte{odd, nil, b[:1], append(bytes.Clone(b), 0), laid(func(w *bits.Writer) { w.Put(0b11110, 5); w.Put(200, 20) })} {
		if n, e := Whole(wrong, takeCount, write); n != 0 || e != api.ErrForm {
			t.Errorf("%v is read as %d, %d", wrong, n, e)
		}
	}
	none := func(*bits.Reader) (uint64, bool) { return 200, false }
	if n, e := Whole(b, none, write); n != 0 || e != api.ErrForm {
		t.Errorf("what can't be taken is read as %d, %d", n, e)
	}
}
