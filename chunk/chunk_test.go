package chunk

import (
	"bytes"
	"maps"
	"math"
	"math/big"
	"math/rand/v2"
	"pluvial/api"
	"pluvial/hist"
	"slices"
	"strconv"
	"strings"
	"testing"
)

// The tests hold the package against chunks told as texts of the letters 0 and 1, reckoned by big numbers, and against sets of indices for what fits.

const top = math.MaxUint64

// end is the last place that there is.
const end = 1 << 18

// schemas are all that there are.
func schemas() []int { return []int{-4, -3, -2, -1, 0, 1, 2, 3, 4, 5, 6, 7, 8} }

// width is how many units a bucket has.
func width(schema int) int {
	return [...]int{4096, 2048, 1024, 512, 256, 128, 64, 32, 16, 8, 4, 2, 1}[schema+4]
}

// least and most are the first and the last index.
func least(schema int) int { return 1 - most(schema) }

func most(schema int) int { return end / width(schema) }

// l are buckets by pairs: an index, and how many it has.
func l(pairs ...int) []api.Bucket {
	var out []api.Bucket
	for i := 0; i < len(pairs); i += 2 {
		out = append(out, api.Bucket{Index: pairs[i], Count: uint64(pairs[i+1])})
	}
	return out
}

// run are buckets that follow each other, each with one.
func run(first, long int) []api.Bucket {
	var out []api.Bucket
	for i := range long {
		out = append(out, api.Bucket{Index: first + i, Count: 1})
	}
	return out
}

// of is a histogram with a Count that is right.
func of(h api.Hist) api.Hist {
	h.Count = h.Zero
	for _, b := range slices.Concat(h.Pos, h.Neg) {
		h.Count += b.Count
	}
	return h
}

// counter and gauge are histograms of the schema 0.
func counter(zero uint64, sum int64, pos, neg []api.Bucket) api.Hist {
	return of(api.Hist{Kind: api.Counter, ZeroAt: api.NoZero, Zero: zero, Sum: sum, Pos: pos, Neg: neg})
}

func gauge(zero uint64, sum int64, pos, neg []api.Bucket) api.Hist {
	h := counter(zero, sum, pos, neg)
	h.Kind = api.Gauge
	return h
}

// fine is a gauge of the finest schema, that has room for many buckets.
func fine(pos, neg []api.Bucket) api.Hist {
	h := gauge(0, 0, pos, neg)
	h.Schema = 8
	return h
}

// turned is a histogram with its sides the other way round.
func turned(h api.Hist) api.Hist {
	h.Pos, h.Neg = h.Neg, h.Pos
	return h
}

// row are samples, so far apart, from a time on.
func row(t, apart int64, h ...api.Hist) []api.Sample {
	var out []api.Sample
	for i, one := range h {
		out = append(out, api.Sample{T: t + int64(i)*apart, H: one})
	}
	return out
}

// many are so many samples of one histogram.
func many(long int, h api.Hist) []api.Sample {
	return row(0, 1, slices.Repeat([]api.Hist{h}, long)...)
}

// copied are samples with lists of their own.
func copied(l []api.Sample) []api.Sample {
	var out []api.Sample
	for _, s := range l {
		s.H.Pos, s.H.Neg = append([]api.Bucket(nil), s.H.Pos...), append([]api.Bucket(nil), s.H.Neg...)
		out = append(out, s)
	}
	return out
}

// equal says whether all is the same, field by field.
func equal(a, b []api.Sample) bool {
	return slices.EqualFunc(a, b, func(x, y api.Sample) bool {
		return x.T == y.T && slices.Equal(x.H.Pos, y.H.Pos) && slices.Equal(x.H.Neg, y.H.Neg) &&
			[3]int{x.H.Kind, x.H.Schema, x.H.ZeroAt} == [3]int{y.H.Kind, y.H.Schema, y.H.ZeroAt} &&
			[2]uint64{x.H.Zero, x.H.Count} == [2]uint64{y.H.Zero, y.H.Count} && x.H.Sum == y.H.Sum
	})
}

// kept asserts that samples that are handed in are as they were, with the room behind the ends of their lists.
func kept(t *testing.T, in []api.Sample, do func()) {
	t.Helper()
	all := func() []api.Sample {
		out := slices.Clone(in[:cap(in)])
		for i := range out {
			out[i].H.Pos, out[i].H.Neg = out[i].H.Pos[:cap(out[i].H.Pos)], out[i].H.Neg[:cap(out[i].H.Neg)]
		}
		return copied(out)
	}
	was := all()
	do()
	if !equal(all(), was) {
		t.Errorf("%v became %v", was, all())
	}
}

// What fits, by sets.

// indices are those of all buckets of a side.
func indices(l []api.Sample, neg bool) map[int]bool {
	set := map[int]bool{}
	for _, s := range l {
		side := s.H.Pos
		if neg {
			side = s.H.Neg
		}
		for _, b := range side {
			set[b.Index] = true
		}
	}
	return set
}

// lost says whether a bucket, or Zero, has less than it had.
func lost(was, now api.Hist) bool {
	has := map[[2]int]uint64{{0, 0}: now.Zero}
	for _, b := range now.Pos {
		has[[2]int{1, b.Index}] = b.Count
	}
	for _, b := range now.Neg {
		has[[2]int{-1, b.Index}] = b.Count
	}
	less := now.Zero < was.Zero
	for _, b := range was.Pos {
		less = less || has[[2]int{1, b.Index}] < b.Count
	}
	for _, b := range was.Neg {
		less = less || has[[2]int{-1, b.Index}] < b.Count
	}
	return less
}

// pictured says whether a sample fits behind others.
func pictured(l []api.Sample, s api.Sample) bool {
	if len(l) == 0 {
		return true
	}
	last := l[len(l)-1]
	all := append(slices.Clone(l), s)
	switch {
	case len(all) > 32, s.T <= last.T:
		return false
	case s.H.Kind != last.H.Kind, s.H.Schema != last.H.Schema, s.H.ZeroAt != last.H.ZeroAt:
		return false
	case s.H.Kind == api.Counter && lost(last.H, s.H):
		return false
	}
	return len(indices(all, false)) <= 512 && len(indices(all, true)) <= 512
}

// Bits, by letters.

// count is a count's bits.
func count(n *big.Int) string {
	text := n.Text(2)
	if n.Sign() == 0 {
		return "0"
	}
	for class, room := range []int{0, 3, 7, 12, 20, 32, 64} {
		if len(text) <= room {
			s := strings.Repeat("1", class)
			if class < 6 {
				s += "0"
			}
			return s + strings.Repeat("0", room-len(text)) + text
		}
	}
	panic("no count: " + text)
}

// c is a count's bits, w a whole number's.
func c(n uint64) string { return count(new(big.Int).SetUint64(n)) }

func w(n int64) string { return whole(big.NewInt(n)) }

// whole is a whole number's bits.
func whole(n *big.Int) string {
	twice := new(big.Int).Lsh(n, 1)
	if n.Sign() < 0 {
		twice.Neg(twice).Sub(twice, big.NewInt(1))
	}
	return count(twice)
}

// power is two to the n.
func power(n uint) *big.Int { return new(big.Int).Lsh(big.NewInt(1), n) }

// round is a number of 64 bits, from -2^63 on, that is the same modulo 2^64.
func round(n *big.Int) *big.Int {
	out := new(big.Int).Mod(n, power(64))
	if out.Cmp(power(63)) >= 0 {
		out.Sub(out, power(64))
	}
	return out
}

// sorted are a set's indices, rising.
func sorted(set map[int]bool) []int {
	return slices.Sorted(maps.Keys(set))
}

// layout is a layout's bits.
func layout(set map[int]bool) string {
	var runs []string
	behind := 0
	for _, i := range sorted(set) {
		// Only where a run begins.
		if set[i-1] {
			continue
		}
		long := 1
		for set[i+long] {
			long++
		}
		at := w(int64(i))
		if len(runs) > 0 {
			at = c(uint64(i - behind - 1))
		}
		runs = append(runs, at+c(uint64(long-1)))
		behind = i + long
	}
	return c(uint64(len(runs))) + strings.Join(runs, "")
}

// spread are the counts of a set's indices.
func spread(set map[int]bool, side []api.Bucket) []*big.Int {
	has := map[int]uint64{}
	for _, b := range side {
		has[b.Index] = b.Count
	}
	var out []*big.Int
	for _, i := range sorted(set) {
		out = append(out, new(big.Int).SetUint64(has[i]))
	}
	return out
}

// letters are a chunk's bits, in parts: the head, how many samples there are, and sample by sample.
func letters(l []api.Sample) []string {
	h := l[0].H
	kind := "0"
	if h.Kind == api.Gauge {
		kind = "1"
	}
	schema := strconv.FormatInt(int64(h.Schema)+4+16, 2)[1:]
	pos, neg := indices(l, false), indices(l, true)
	parts := []string{kind, schema, w(int64(h.ZeroAt)), layout(pos), layout(neg), c(uint64(len(l) - 1))}
	var rows [][]*big.Int
	for i, s := range l {
		part := ""
		switch i {
		case 0:
			part = c(uint64(s.T))
		case 1:
			part = c(uint64(s.T - l[0].T - 1))
		default:
			part = w(s.T - l[i-1].T - (l[i-1].T - l[i-2].T))
		}
		sum := new(big.Int).Mod(big.NewInt(s.H.Sum), power(64))
		row := slices.Concat([]*big.Int{new(big.Int).SetUint64(s.H.Zero), sum}, spread(pos, s.H.Pos), spread(neg, s.H.Neg))
		rows = append(rows, row)
		for k, n := range row {
			if i == 0 {
				part += count(n)
				continue
			}
			more := new(big.Int).Sub(n, rows[i-1][k])
			if i > 1 {
				more.Sub(more, new(big.Int).Sub(rows[i-1][k], rows[i-2][k]))
			}
			part += whole(round(more))
		}
		parts = append(parts, part)
	}
	return parts
}

// pack are letters as bytes, with noughts at the end.
func pack(parts ...string) []byte {
	s := strings.Join(parts, "")
	s += strings.Repeat("0", (8-len(s)%8)%8)
	var b []byte
	for i := 0; i < len(s); i += 8 {
		n, _ := strconv.ParseUint(s[i:i+8], 2, 8)
		b = append(b, byte(n))
	}
	return b
}

// plain are letters as they are, for a message.
func plain(b []byte) string {
	s := ""
	for _, n := range b {
		s += strconv.FormatInt(int64(n)+256, 2)[1:]
	}
	return s
}

func checkFits(t *testing.T, what string, l []api.Sample, s api.Sample, want bool) {
	t.Helper()
	kept(t, append(slices.Clone(l), s), func() {
		t.Helper()
		if got := Fits(l, s); got != want {
			t.Errorf("%s: Fits is %t", what, got)
		}
	})
	if pictured(l, s) != want {
		t.Errorf("%s: pictured is %t", what, !want)
	}
}

// checkChunk asserts that samples are a chunk of these bits, which are decoded as they were.
func checkChunk(t *testing.T, what string, l []api.Sample, parts ...string) {
	t.Helper()
	kept(t, l, func() {
		t.Helper()
		if e := Check(l); e != api.OK {
			t.Errorf("%s: Check is %d", what, e)
		}
		b, e := Encode(l)
		if want := pack(parts...); !bytes.Equal(b, want) || e != api.OK {
			t.Errorf("%s: Encode is %s, %d; want %s", what, plain(b), e, plain(want))
		}
		was := bytes.Clone(b)
		got, e := Decode(b)
		if !equal(got, l) || e != api.OK {
			t.Errorf("%s: Decode is %v, %d; want %v", what, got, e, l)
		}
		if !bytes.Equal(b, was) {
			t.Errorf("%s: Decode changed the bytes", what)
		}
	})
}

// checkWrong asserts why samples are no chunk.
func checkWrong(t *testing.T, what string, l []api.Sample, want api.Errno) {
	t.Helper()
	kept(t, l, func() {
		t.Helper()
		if e := Check(l); e != want {
			t.Errorf("%s: Check is %d; want %d", what, e, want)
		}
		if b, e := Encode(l); len(b) != 0 || e != want {
			t.Errorf("%s: Encode is %s, %d; want %d", what, plain(b), e, want)
		}
	})
}

// checkRefused asserts that bytes are no chunk's.
func checkRefused(t *testing.T, what string, b []byte) {
	t.Helper()
	if got, e := Decode(b); len(got) != 0 || e != api.ErrForm {
		t.Errorf("%s: Decode is %v, %d", what, got, e)
	}
}

// checkCut asserts how many samples each chunk has.
func checkCut(t *testing.T, what string, l []api.Sample, want ...int) {
	t.Helper()
	kept(t, l, func() {
		t.Helper()
		var long []int
		var all []api.Sample
		for _, one := range Cut(l) {
			long = append(long, len(one))
			all = append(all, one...)
		}
		if !slices.Equal(long, want) {
			t.Errorf("%s: Cut has %v; want %v", what, long, want)
		}
		if !equal(all, l) {
			t.Errorf("%s: what is cut is %v; want %v", what, all, l)
		}
	})
}

// P9.1

func TestFitsTimes(t *testing.T) {
	h := counter(1, 2, l(1, 2), l(3, 4))
	for _, at := range []int64{math.MinInt64, -1, 0, 1, api.MaxTime, api.MaxTime + 1, math.MaxInt64} {
		checkFits(t, "behind none", nil, api.Sample{T: at, H: h}, true)
		checkFits(t, "behind an empty list", []api.Sample{}, api.Sample{T: at, H: h}, true)
	}
	for _, at := range []int64{1, 5, 1000, api.MaxTime} {
		behind := row(at, 1, h)
		checkFits(t, "a time that stays", behind, api.Sample{T: at, H: h}, false)
		checkFits(t, "a time that goes back", behind, api.Sample{T: at - 1, H: h}, false)
		checkFits(t, "a time that goes far back", behind, api.Sample{H: h}, false)
		checkFits(t, "the next time", behind, api.Sample{T: at + 1, H: h}, true)
	}
	checkFits(t, "the last time behind the first", row(0, 1, h), api.Sample{T: api.MaxTime, H: h}, true)
	// It is the last one's time that counts.
	checkFits(t, "between two", row(3, 6, h, h), api.Sample{T: 5, H: h}, false)
	checkFits(t, "above the last one's, that went back", row(9, -6, h, h), api.Sample{T: 5, H: h}, true)
}

func TestFitsHowMany(t *testing.T) {
	for _, h := range []api.Hist{counter(0, 0, nil, nil), gauge(1, 2, l(3, 4), l(5, 6))} {
		for long := range 36 {
			checkFits(t, strconv.Itoa(long)+" ahead", many(long, h), api.Sample{T: 100, H: h}, long < 32)
		}
		checkFits(t, "1000 ahead", many(1000, h), api.Sample{T: 2000, H: h}, false)
	}
}

func TestFitsAnotherHead(t *testing.T) {
	for _, s := range schemas() {
		for _, zeroAt := range []int{api.NoZero, 1 - end, -5, 0, end} {
			for _, kind := range []int{api.Counter, api.Gauge} {
				h := of(api.Hist{Kind: kind, Schema: s, ZeroAt: zeroAt, Zero: 7})
				checkFits(t, "the same", row(4, 1, h), api.Sample{T: 5, H: h}, true)
				other := h
				other.Kind = 1 - kind
				checkFits(t, "another Kind", row(4, 1, h), api.Sample{T: 5, H: other}, false)
				for _, to := range schemas() {
					other = h
					other.Schema = to
					checkFits(t, "another Schema", row(4, 1, h), api.Sample{T: 5, H: other}, to == s)
				}
				for _, to := range []int{api.NoZero, 1 - end, -5, -4, 0, end - 1, end} {
					other = h
					other.ZeroAt = to
					checkFits(t, "another ZeroAt", row(4, 1, h), api.Sample{T: 5, H: other}, to == zeroAt)
				}
			}
		}
	}
	// The last one's counts, whatever those ahead have.
	a, b := counter(1, 0, nil, nil), gauge(1, 0, nil, nil)
	checkFits(t, "a gauge behind a gauge", row(1, 1, a, b), api.Sample{T: 9, H: b}, true)
	checkFits(t, "a counter behind a gauge", row(1, 1, a, b), api.Sample{T: 9, H: a}, false)
}

func TestFitsReset(t *testing.T) {
	was := counter(5, 100, l(-1, 4, 3, 7), l(2, 9))
	for _, x := range []struct {
		what string
		now  api.Hist
		want bool
	}{
		{"the same", was, true},
		{"more of all", counter(6, 200, l(-1, 5, 3, 8), l(2, 10)), true},
		{"other buckets, too", counter(5, 100, l(-2, 1, -1, 4, 0, 1, 3, 7, 9, 1), l(1, 1, 2, 9, 3, 1)), true},
		{"less of Zero", counter(4, 100, l(-1, 4, 3, 7), l(2, 9)), false},
		{"less of Zero, but more in all", counter(4, 100, l(-1, 40, 3, 7), l(2, 9)), false},
		{"less of the first of Pos", counter(5, 100, l(-1, 3, 3, 7), l(2, 9)), false},
		{"less of the last of Pos", counter(5, 100, l(-1, 4, 3, 6), l(2, 9)), false},
		{"one of Pos is gone", counter(5, 100, l(-1, 4), l(2, 9)), false},
		{"one of Pos is elsewhere", counter(5, 100, l(-1, 4, 4, 7), l(2, 9)), false},
		{"less of Neg", counter(5, 100, l(-1, 4, 3, 7), l(2, 8)), false},
		{"Neg is gone", counter(5, 100, l(-1, 4, 3, 7), nil), false},
		{"the sides are turned", turned(was), false},
		{"nothing is left", counter(0, 0, nil, nil), false},
		// A Sum may go down by itself, as observations may lie below nothing.
		{"less of Sum", counter(5, -100, l(-1, 4, 3, 7), l(2, 9)), true},
		{"the least Sum", counter(5, math.MinInt64, l(-1, 4, 3, 7), l(2, 9)), true},
		{"the greatest Sum", counter(5, math.MaxInt64, l(-1, 4, 3, 7), l(2, 9)), true},
	} {
		checkFits(t, x.what, row(1, 1, was), api.Sample{T: 2, H: x.now}, x.want)
		checkFits(t, x.what+", turned", row(1, 1, turned(was)), api.Sample{T: 2, H: turned(x.now)}, x.want)
		a, b := was, x.now
		a.Kind, b.Kind = api.Gauge, api.Gauge
		checkFits(t, x.what+", of a gauge", row(1, 1, a), api.Sample{T: 2, H: b}, true)
	}
	least, greatest := counter(0, math.MinInt64, nil, nil), counter(0, math.MaxInt64, nil, nil)
	checkFits(t, "Sums too far apart to be told", row(1, 1, least), api.Sample{T: 2, H: greatest}, true)
	checkFits(t, "Sums too far apart, the other way round", row(1, 1, greatest), api.Sample{T: 2, H: least}, true)
	// It is the last one against which it was reset, or not.
	checkFits(t, "no less than the last one", row(1, 1, was, counter(1, 0, nil, nil)), api.Sample{T: 9, H: counter(2, 0, nil, nil)}, true)
	checkFits(t, "less than the last one", row(1, 1, counter(1, 0, nil, nil), was), api.Sample{T: 9, H: counter(2, 0, nil, nil)}, false)
}

// sums are lists of samples whose buckets come to so many of one side.
func sums(long int) map[string][]api.Hist {
	var apart []api.Bucket
	for i := range long - 100 {
		apart = append(apart, api.Bucket{Index: 5000 + 2*i, Count: 3})
	}
	grown := run(-300, long)
	for i := range grown {
		grown[i].Count = 2
	}
	return map[string][]api.Hist{
		"apart":              {fine(run(0, 100), nil), fine(apart, nil)},
		"overlapping":        {fine(run(0, 300), nil), fine(run(200, long-200), nil)},
		"one more":           {fine(run(0, long-1), nil), fine(run(long-1, 1), nil)},
		"one ahead":          {fine(run(0, long-1), nil), fine(run(-1, 1), nil)},
		"within":             {fine(append(run(0, long-2), run(long+7, 1)...), nil), fine(run(long, 1), nil)},
		"by three":           {fine(run(0, 200), nil), fine(nil, nil), fine(run(200, long-200), nil)},
		"by four, gone once": {fine(run(0, 200), nil), fine(run(300, 100), nil), fine(run(0, 1), nil), fine(run(1000, long-300), nil)},
		"of both sides":      {fine(run(0, 512), run(0, 400)), fine(run(0, 512), run(100, 412)), fine(run(0, long), run(0, 1))},
		"grown":              {fine(run(-300, 400), nil), fine(grown, nil)},
	}
}

func TestFitsHowManyBuckets(t *testing.T) {
	for _, long := range []int{511, 512, 513} {
		for what, h := range sums(long) {
			what += " to " + strconv.Itoa(long)
			all := row(1, 1, h...)
			turn := copied(all)
			for i := range turn {
				turn[i].H = turned(turn[i].H)
			}
			n := len(all) - 1
			checkFits(t, what, all[:n], all[n], long <= 512)
			checkFits(t, what+", turned", turn[:n], turn[n], long <= 512)
			if long <= 512 {
				checkCut(t, what, all, n+1)
				checkChunk(t, what, all, letters(all)...)
				checkChunk(t, what+", turned", turn, letters(turn)...)
				continue
			}
			checkCut(t, what, all, n, 1)
			checkCut(t, what+", turned", turn, n, 1)
			// A side of more than 512 by itself may not be.
			if what != "grown to 513" && what != "of both sides to 513" {
				checkWrong(t, what, all, api.ErrForm)
				checkWrong(t, what+", turned", turn, api.ErrForm)
			}
		}
	}
	// Each side by itself.
	checkFits(t, "512 of both", row(1, 1, fine(run(0, 512), run(700, 512))), api.Sample{T: 2, H: fine(run(0, 512), run(700, 512))}, true)
	// Those ahead count, also where they alone have too many.
	over := row(1, 1, fine(run(0, 512), nil), fine(run(512, 1), nil))
	checkFits(t, "none behind too many", over, api.Sample{T: 9, H: fine(nil, nil)}, false)
	checkFits(t, "buckets of counters", row(1, 1, counter(0, 0, run(-300, 512), nil)), api.Sample{T: 9, H: counter(0, 0, run(-300, 512), run(0, 9))}, true)
	checkFits(t, "buckets of counters, one more", row(1, 1, counter(0, 0, run(-300, 512), nil)), api.Sample{T: 9, H: counter(0, 0, run(-300, 513), nil)}, false)
}

func TestCutTold(t *testing.T) {
	h := counter(5, 1, l(1, 2), l(3, 4))
	more := counter(6, 1, l(1, 2, 2, 7), l(3, 5))
	less := counter(5, 1, l(1, 1), l(3, 4))
	zero, finer := h, h
	zero.ZeroAt = -700
	finer.Schema = 1
	g := gauge(5, 1, l(1, 2), l(3, 4))
	low := gauge(0, 1, nil, nil)
	checkCut(t, "none", nil)
	checkCut(t, "an empty list", []api.Sample{})
	checkCut(t, "one", row(5, 1, h), 1)
	checkCut(t, "two", row(5, 1, h, more), 2)
	checkCut(t, "none to be cut", row(5, 7, h, h, more, more), 4)
	checkCut(t, "a counter that was reset", row(5, 1, h, more, less, h, more), 2, 3)
	checkCut(t, "one that was reset each time", row(5, 1, more, less, counter(0, 0, nil, nil)), 1, 1, 1)
	checkCut(t, "a gauge that got less", row(5, 1, g, low, g, low), 4)
	checkCut(t, "another Kind", row(5, 1, h, h, g, g, g, h), 2, 3, 1)
	checkCut(t, "another Schema", row(5, 1, h, finer, finer, h), 1, 2, 1)
	checkCut(t, "another ZeroAt", row(5, 1, h, h, zero, h), 2, 1, 1)
	checkCut(t, "times that stay", row(5, 0, h, h, h), 1, 1, 1)
	checkCut(t, "times that go back", append(row(5, 1, h, h), row(2, 1, h, h, h)...), 2, 3)
	for _, long := range []int{31, 32, 33, 63, 64, 65, 100} {
		var want []int
		for left := long; left > 0; left -= 32 {
			want = append(want, min(left, 32))
		}
		checkCut(t, strconv.Itoa(long), many(long, h), want...)
	}
	// What is behind a cut begins anew: its buckets, and how many there are.
	checkCut(t, "too many buckets, twice", row(0, 1,
		fine(run(0, 300), nil), fine(run(300, 212), nil), fine(run(512, 1), nil), fine(run(513, 511), nil), fine(run(0, 1), nil)), 2, 2, 1)
	checkCut(t, "32 behind one", append(row(0, 1, g), many(33, h)...), 1, 32, 1)
	// Samples that may not be are cut, too.
	checkCut(t, "times that may not be", row(-3, 1, h, h, h, h, h), 5)
}

func TestCheckTold(t *testing.T) {
	h := counter(5, 1, l(1, 2), l(3, 4))
	checkWrong(t, "none", nil, api.ErrNoData)
	checkWrong(t, "an empty list", []api.Sample{}, api.ErrNoData)
	for _, at := range []int64{-1, math.MinInt64, api.MaxTime + 1, math.MaxInt64} {
		checkWrong(t, "the time", []api.Sample{{T: at, H: h}}, api.ErrRange)
		checkWrong(t, "the second time", []api.Sample{{T: 5, H: h}, {T: at, H: h}}, api.ErrRange)
		checkWrong(t, "the third time", []api.Sample{{T: 5, H: h}, {T: 6, H: h}, {T: at, H: h}}, api.ErrRange)
	}
	for _, at := range []int64{0, 1, api.MaxTime - 1, api.MaxTime} {
		one := row(at, 1, h)
		checkChunk(t, "one", one, letters(one)...)
	}
	checkWrong(t, "a time that stays", row(7, 0, h, h), api.ErrForm)
	checkWrong(t, "times that stay", row(7, 0, h, h, h), api.ErrForm)
	checkWrong(t, "times that go back", row(7, -1, h, h), api.ErrForm)
	checkWrong(t, "the third goes back", []api.Sample{{T: 5, H: h}, {T: 8, H: h}, {T: 7, H: h}}, api.ErrForm)
	other := h
	other.Kind = api.Gauge
	checkWrong(t, "another Kind", row(7, 1, h, other), api.ErrForm)
	other = h
	other.Schema = -1
	checkWrong(t, "another Schema", row(7, 1, h, other), api.ErrForm)
	other = h
	other.ZeroAt = -5000
	checkWrong(t, "another ZeroAt", row(7, 1, h, other), api.ErrForm)
	checkWrong(t, "reset", row(7, 1, h, counter(4, 1, l(1, 2), l(3, 4))), api.ErrForm)
	checkWrong(t, "33", many(33, h), api.ErrForm)
	checkWrong(t, "1000", many(1000, h), api.ErrForm)
}

// wrongs are histograms that may not be, by what is wrong.
func wrongs() map[api.Errno]api.Hist {
	h := counter(5, 1, l(1, 2), l(3, 4))
	kind, schema, zero, limit, index, order, empty, over, sum := h, h, h, h, h, h, h, h, h
	kind.Kind = 2
	schema.Schema = 9
	zero.ZeroAt = -end
	limit.Pos = run(-300, 513)
	index.Neg = l(most(0)+1, 1)
	order.Pos = l(2, 1, 2, 1)
	empty.Pos = l(1, 0)
	over.Zero = top
	sum.Count++
	return map[api.Errno]api.Hist{
		api.ErrKind: kind, api.ErrSchema: schema, api.ErrZero: zero, api.ErrLimit: of(limit), api.ErrRange: of(index),
		api.ErrBucket: of(order), api.ErrCount: of(empty), api.ErrOver: over, 0: sum,
	}
}

func TestCheckHistograms(t *testing.T) {
	h := counter(5, 1, l(1, 2), l(3, 4))
	for want, wrong := range wrongs() {
		if want == 0 {
			want = api.ErrCount
		}
		what := "wrong by " + strconv.Itoa(int(want))
		if e := hist.Check(wrong); e != want {
			t.Fatalf("%s: it is %d", what, e)
		}
		checkWrong(t, what, row(5, 1, wrong), want)
		checkWrong(t, what+", second", row(5, 1, h, wrong), want)
		checkWrong(t, what+", third", row(5, 1, h, h, wrong), want)
		// Its time is told ahead of it; it ahead of whether it fits; a sample ahead of those behind.
		checkWrong(t, what+", and its time", row(-1, 1, wrong), api.ErrRange)
		checkWrong(t, what+", and its time, too late", row(api.MaxTime, 1, h, wrong), api.ErrRange)
		checkWrong(t, what+", and its time stays", row(5, 0, h, wrong), want)
		checkWrong(t, what+", the 33rd", append(many(32, h), api.Sample{T: 99, H: wrong}), want)
		checkWrong(t, what+", and the next one's time", append(row(5, 1, wrong), api.Sample{T: -1, H: h}), want)
		checkWrong(t, what+", behind a wrong time", append(row(-1, 1, h), api.Sample{T: 3, H: wrong}), api.ErrRange)
		checkWrong(t, what+", behind one that doesn't fit", append(row(5, 0, h, h), api.Sample{T: 9, H: wrong}), api.ErrForm)
	}
	checkWrong(t, "one that doesn't fit, and a time behind it", append(row(5, 0, h, h), api.Sample{T: -1, H: h}), api.ErrForm)
	checkWrong(t, "a time that doesn't fit, nor may be", row(0, -1, h, h), api.ErrRange)
	checkWrong(t, "a time that fits, but may not be, of the 33rd", append(many(32, h), api.Sample{T: api.MaxTime + 1, H: h}), api.ErrRange)
}

func TestEncodeTold(t *testing.T) {
	nought := strings.Repeat("0", 20)
	checkChunk(t, "the document's", row(0, 1, counter(0, 0, nil, nil)),
		"0", "0100", "11110"+strings.Repeat("1", 20), "0", "0", "0", "0", "0", "0")
	first := of(api.Hist{Kind: api.Gauge, Schema: 2, ZeroAt: -1, Zero: 1, Sum: 4, Pos: l(1, 5), Neg: l(4, 2)})
	second := of(api.Hist{Kind: api.Gauge, Schema: 2, ZeroAt: -1, Zero: 3, Sum: 1, Pos: l(2, 1), Neg: l(4, 2)})
	third := of(api.Hist{Kind: api.Gauge, Schema: 2, ZeroAt: -1, Zero: 2, Sum: 1, Pos: l(1, 6, 2, 1)})
	checkChunk(t, "three", []api.Sample{{T: 7, H: first}, {T: 10, H: second}, {T: 12, H: third}},
		// A Gauge, of the schema 2, whose ZeroAt is -1.
		"1", "0110", "10001",
		// One run from 1 on, of two; one from 4 on, of one.
		"10001"+"10010"+"10001", "10001"+"1100001000"+"0",
		// Two more samples.
		"10010",
		// 7; Zero 1, Sum 4; 5, 0; 2.
		"10111", "10001", "10100", "10101", "0", "10010",
		// 3 behind; 2 and -3 more; -5, 1; 0.
		"10010", "10100", "10101", "1100001001", "10010", "0",
		// One nearer; -1 is 3 less than 2, 0 is 3 more than -3; 11 more, 1 less; -2.
		"10001", "10101", "10110", "1100010110", "10001", "10011")
	// From the least to the greatest is one less than nothing, modulo 2^64; back again one more, which is two more than that.
	checkChunk(t, "round", row(0, 1, gauge(0, math.MinInt64, nil, nil), gauge(top, math.MaxInt64, nil, nil), gauge(0, math.MinInt64, nil, nil)),
		"1", "0100", "11110"+strings.Repeat("1", 20), "0", "0", "10010",
		"0", "0", "111111"+"1"+strings.Repeat(nought, 3)+"000",
		"0", "10001", "10001",
		"0", "10100", "10100")
	// By half of all it is the least whole number.
	checkChunk(t, "half round", row(0, 1, gauge(0, 0, nil, nil), gauge(1<<63, math.MinInt64, nil, nil)),
		"1", "0100", "11110"+strings.Repeat("1", 20), "0", "0", "10001",
		"0", "0", "0",
		"0", strings.Repeat("1", 70), strings.Repeat("1", 70))
}

func TestEncodeTimes(t *testing.T) {
	h := counter(0, 0, nil, nil)
	for _, times := range [][]int64{
		{0}, {1}, {7}, {api.MaxTime},
		{0, 1}, {0, 2}, {0, api.MaxTime}, {api.MaxTime - 1, api.MaxTime}, {5, 1 << 39},
		{0, 1, 2}, {0, 1, api.MaxTime}, {0, api.MaxTime - 1, api.MaxTime}, {1 << 39, 1<<39 + 1, api.MaxTime},
		{0, 10, 20}, {0, 10, 19}, {0, 10, 21}, {0, 10, 11}, {3, 4, 1000, 1001, 1 << 30, 1<<30 + 5, api.MaxTime},
	} {
		var all []api.Sample
		for _, at := range times {
			all = append(all, api.Sample{T: at, H: h})
		}
		checkChunk(t, "times", all, letters(all)...)
		checkCut(t, "times", all, len(all))
	}
	for long := 1; long <= 32; long++ {
		all := many(long, h)
		checkChunk(t, strconv.Itoa(long), all, letters(all)...)
	}
}

func TestEncodeHeads(t *testing.T) {
	for _, s := range schemas() {
		for _, kind := range []int{api.Counter, api.Gauge} {
			for _, zeroAt := range []int{api.NoZero, 1 - end, -4096, -1, 0, 1, 4096, end} {
				h := of(api.Hist{Kind: kind, Schema: s, ZeroAt: zeroAt, Zero: 3, Sum: -9})
				checkChunk(t, "without buckets", row(2, 3, h, h, h), letters(row(2, 3, h, h, h))...)
				h.Pos = l(most(s), 2)
				if zeroAt == api.NoZero || zeroAt == 1-end && s == 8 {
					h.Neg = l(least(s)+1, 5)
				}
				if zeroAt == end {
					h.Pos = nil
				}
				all := row(2, 3, of(h), of(h), of(h))
				checkChunk(t, "with buckets", all, letters(all)...)
			}
			h := of(api.Hist{Kind: kind, Schema: s, ZeroAt: api.NoZero, Pos: l(least(s), 1, most(s), 2), Neg: l(least(s), 3, most(s), 4)})
			all := row(2, 3, h, h)
			checkChunk(t, "the ends", all, letters(all)...)
		}
	}
}

func TestEncodeBuckets(t *testing.T) {
	for what, h := range map[string][]api.Hist{
		"a bucket that comes late":  {counter(0, 0, l(5, 1), nil), counter(0, 0, l(5, 1), nil), counter(0, 0, l(3, 1, 5, 1, 6, 9), l(0, 2))},
		"one that is gone again":    {gauge(0, 0, l(1, 1), l(2, 2)), gauge(0, 0, l(1, 1, 7, 7), l(1, 1, 2, 2)), gauge(0, 0, l(1, 1), l(2, 2)), gauge(0, 0, nil, nil)},
		"one that comes and goes":   {gauge(0, 0, l(1, 1), nil), gauge(0, 0, nil, nil), gauge(0, 0, l(1, 2), nil), gauge(0, 0, nil, nil)},
		"one at the end":            {counter(0, 0, nil, nil), counter(0, 0, nil, nil), counter(0, 0, nil, l(8, 1))},
		"from the least":            {gauge(0, 0, nil, nil), gauge(0, 0, []api.Bucket{{Index: 1, Count: top}}, nil), gauge(0, 0, nil, []api.Bucket{{Index: 1, Count: top}}), gauge(top, 0, nil, nil)},
		"halves":                    {gauge(0, 0, l(1, 1), nil), gauge(0, 0, []api.Bucket{{Index: 1, Count: 1 << 63}}, nil), gauge(0, 0, l(1, 1), nil), gauge(0, 0, []api.Bucket{{Index: 1, Count: 1<<63 + 1}}, nil)},
		"Sums":                      {counter(0, math.MaxInt64, nil, nil), counter(0, math.MinInt64, nil, nil), counter(0, math.MinInt64+1, nil, nil), counter(0, math.MaxInt64, nil, nil), counter(0, -1, nil, nil), counter(0, 0, nil, nil)},
		"a counter as far as it is": {counter(0, 0, nil, nil), counter(1<<63, 0, nil, nil), counter(top, 0, nil, nil), counter(top, 0, nil, nil)},
	} {
		all := row(3, 4, h...)
		checkChunk(t, what, all, letters(all)...)
		checkCut(t, what, all, len(all))
	}
}

// P9.2

// fault is a part of a chunk's bits that is another one, by its place among letters.
func fault(l []api.Sample, place int, part string) []byte {
	parts := letters(l)
	parts[place] = part
	return pack(parts...)
}

// longer is a count's bits in a class that is one longer than need be.
func longer(s string) string {
	class := strings.IndexByte(s, '0')
	room := []int{0, 3, 7, 12, 20, 32, 64}
	n := s[class+1:]
	bits := strings.Repeat("0", room[class+1]-len(n)) + n
	if class+1 == 6 {
		return strings.Repeat("1", 6) + bits
	}
	return strings.Repeat("1", class+1) + "0" + bits
}

func TestDecodeWrongHeads(t *testing.T) {
	h := of(api.Hist{Schema: 0, ZeroAt: -256, Zero: 3, Sum: 2, Pos: l(0, 1, 3, 2), Neg: l(1, 4)})
	all := row(6, 2, h, h)
	if got, e := Decode(pack(letters(all)...)); !equal(got, all) || e != api.OK {
		t.Fatalf("without a fault: %v, %d", got, e)
	}
	if got, e := Decode(fault(all, 0, "1")); e != api.OK || got[0].H.Kind != api.Gauge {
		t.Errorf("a Gauge: %v, %d", got, e)
	}
	for _, s := range []string{"1101", "1110", "1111"} {
		checkRefused(t, "no schema", fault(all, 1, s))
	}
	// By the schema -4 the bucket 0 begins below ZeroAt, by 1 it doesn't.
	checkRefused(t, "a coarser schema", fault(all, 1, "0000"))
	if got, e := Decode(fault(all, 1, "0101")); e != api.OK || got[1].H.Schema != 1 {
		t.Errorf("a finer schema: %v, %d", got, e)
	}
	for _, n := range []int64{-255, 0, 1, end, end + 1, -end, 1 - end - 2, api.NoZero - 1, api.NoZero + 1, math.MinInt64, math.MaxInt64} {
		checkRefused(t, "ZeroAt "+strconv.FormatInt(n, 10), fault(all, 2, w(n)))
	}
	for _, n := range []int64{-257, api.NoZero, 1 - end} {
		if got, e := Decode(fault(all, 2, w(n))); e != api.OK || got[0].H.ZeroAt != int(n) {
			t.Errorf("ZeroAt %d: %v, %d", n, got, e)
		}
	}
	checkRefused(t, "ZeroAt laid longer", fault(all, 2, longer(w(-256))))
	pos, one := c(2)+w(0)+c(0)+c(1)+c(0), c(1)
	if pos != letters(all)[3] {
		t.Fatal(pos)
	}
	for what, part := range map[string]string{
		"how many runs, laid longer":  longer(c(2)) + w(0) + c(0) + c(1) + c(0),
		"First, laid longer":          c(2) + longer(w(0)) + c(0) + c(1) + c(0),
		"an Offset, laid longer":      c(2) + w(0) + c(0) + longer(c(1)) + c(0),
		"a Length, laid longer":       c(2) + w(0) + longer(c(0)) + c(1) + c(0),
		"the last one, laid longer":   c(2) + w(0) + c(0) + c(1) + longer(c(0)),
		"First below all":             c(2) + w(-end-1) + c(0) + c(1) + c(0),
		"First below the schema's":    c(2) + w(-1024) + c(0) + c(1) + c(0),
		"one behind the schema's":     c(2) + w(0) + c(0) + c(1023) + c(0),
		"First below ZeroAt":          c(2) + w(-1) + c(0) + c(1) + c(0),
		"an Offset above all":         c(2) + w(0) + c(0) + c(1<<19) + c(0),
		"the greatest Offset":         c(2) + w(0) + c(0) + c(top) + c(0),
		"the greatest First":          c(2) + w(math.MaxInt64) + c(0) + c(1) + c(0),
		"the least First":             c(2) + w(math.MinInt64) + c(0) + c(1) + c(0),
		"the greatest Length":         c(2) + w(0) + c(0) + c(1) + c(top),
		"more runs than there may be": c(513) + w(0) + c(0) + c(1) + c(0),
		"the most runs":               c(top) + w(0) + c(0) + c(1) + c(0),
		"more buckets than may be":    one + w(0) + c(512),
	} {
		checkRefused(t, what, fault(all, 3, part))
	}
	if got, e := Decode(fault(all, 3, c(2)+w(0)+c(0)+c(1022-2)+c(0))); e != api.OK || got[1].H.Pos[1].Index != 1022 {
		t.Errorf("another layout: %v, %d", got, e)
	}
}

// An index that no sample has a bucket of stands in no layout.
func TestDecodeIdleIndices(t *testing.T) {
	h := api.Hist{Kind: api.Gauge, ZeroAt: api.NoZero, Zero: 3, Pos: l(1, 1)}
	head := []string{"1", "0100", w(api.NoZero)}
	two := c(1) + w(1) + c(1)
	one := c(1) + w(1) + c(0)
	row := func(first string, numbers ...uint64) string {
		for _, n := range numbers {
			first += c(n)
		}
		return first
	}
	good, e := Decode(pack(slices.Concat(head, []string{one, "0", c(0), row(c(9), 3, 0, 1)})...))
	if e != api.OK || !equal(good, []api.Sample{{T: 9, H: of(h)}}) {
		t.Fatal(good, e)
	}
	checkRefused(t, "the second of Pos", pack(slices.Concat(head, []string{two, "0", c(0), row(c(9), 3, 0, 1, 0)})...))
	checkRefused(t, "the first of Pos", pack(slices.Concat(head, []string{two, "0", c(0), row(c(9), 3, 0, 0, 1)})...))
	checkRefused(t, "all of Pos", pack(slices.Concat(head, []string{one, "0", c(0), row(c(9), 3, 0, 0)})...))
	checkRefused(t, "of Neg", pack(slices.Concat(head, []string{one, one, c(0), row(c(9), 3, 0, 1, 0)})...))
	checkRefused(t, "of both", pack(slices.Concat(head, []string{two, two, c(0), row(c(9), 3, 0, 0, 1, 0, 1)})...))
	// Of two samples one may do without.
	good, e = Decode(pack(slices.Concat(head, []string{two, "0", c(1), row(c(9), 3, 0, 1, 0), c(0) + w(0) + w(0) + w(-1) + w(5)})...))
	h.Zero = 3
	next := h
	next.Pos = l(2, 5)
	if e != api.OK || !equal(good, []api.Sample{{T: 9, H: of(h)}, {T: 10, H: of(next)}}) {
		t.Error(good, e)
	}
	checkRefused(t, "of two samples", pack(slices.Concat(head, []string{two, "0", c(1), row(c(9), 3, 0, 1, 0), c(0) + w(0) + w(0) + w(1) + w(0)})...))
}

func TestDecodeHowMany(t *testing.T) {
	h := counter(0, 0, nil, nil)
	for _, long := range []int{1, 2, 3, 31, 32} {
		all := many(long, h)
		for n := range 40 {
			if n != long-1 {
				parts := letters(all)
				parts[5] = c(uint64(n))
				// As noughts tell samples, too, there must be as few of them as can be.
				b := pack(parts...)
				if got, e := Decode(b); e == api.OK && !bytes.Equal(pack(letters(got)...), b) {
					t.Errorf("%d of %d: %v", n+1, long, got)
				}
			}
		}
		checkRefused(t, "laid longer", fault(all, 5, longer(c(uint64(long-1)))))
		checkRefused(t, "the most", fault(all, 5, c(top)))
		checkRefused(t, "one and 2^32", fault(all, 5, c(1<<32)))
	}
	// Of 33 all is right but for how many they are.
	checkRefused(t, "33", pack(letters(many(33, h))...))
	checkRefused(t, "34", pack(letters(many(34, h))...))
	for _, long := range []int{2, 3, 9, 32} {
		var h []api.Hist
		for i := range long {
			h = append(h, counter(7, int64(i*i*i), l(1, 70), l(2, 70)))
		}
		all := row(0, 1, h...)
		checkRefused(t, "fewer than there are", fault(all, 5, c(uint64(long-2))))
		if long < 32 {
			checkRefused(t, "more than there are", fault(all, 5, c(uint64(long+8))))
		}
	}
}

func TestDecodeTimes(t *testing.T) {
	h := counter(0, 0, nil, nil)
	rest := "00"
	one, two, three := row(9, 1, h), row(9, 1, h, h), row(9, 10, h, h, h)
	for _, n := range []uint64{api.MaxTime + 1, 1 << 41, 1 << 62, 1 << 63, top} {
		checkRefused(t, "the time", fault(one, 6, c(n)+rest))
		checkRefused(t, "the second time", fault(two, 7, c(n)+rest))
	}
	checkRefused(t, "laid longer", fault(one, 6, longer(c(9))+rest))
	checkRefused(t, "the second laid longer", fault(two, 7, longer(c(0))+rest))
	checkRefused(t, "the third laid longer", fault(three, 8, longer(w(0))+rest))
	checkRefused(t, "one behind the last time", fault(two, 7, c(api.MaxTime-9)+rest))
	if got, e := Decode(fault(two, 7, c(api.MaxTime-10)+rest)); e != api.OK || got[1].T != api.MaxTime {
		t.Errorf("the last time: %v, %d", got, e)
	}
	// Behind 9 and 19 the third one is told from 29 on.
	for _, n := range []int64{-10, -11, -19, -20, -29, -30, -1000, api.MaxTime - 28, api.MaxTime, 1 << 62, math.MaxInt64, math.MaxInt64 - 29, math.MinInt64, math.MinInt64 + 29, math.MinInt64 + 30} {
		checkRefused(t, "the third time "+strconv.FormatInt(n, 10), fault(three, 8, w(n)+rest))
	}
	for _, n := range []int64{-9, -1, 0, 1, 1000, api.MaxTime - 29} {
		if got, e := Decode(fault(three, 8, w(n)+rest)); e != api.OK || got[2].T != 29+n {
			t.Errorf("the third time, by %d: %v, %d", n, got, e)
		}
	}
	// A second time that may not be, from which the third one comes back to one that may.
	late := fault([]api.Sample{{T: 0, H: h}, {T: 1, H: h}, {T: 2, H: h}}, 7, c(api.MaxTime)+rest)
	checkRefused(t, "too late, and behind that", late)
	back := letters(three)
	back[7], back[8] = c(api.MaxTime)+rest, w(-api.MaxTime-100)+rest
	checkRefused(t, "too late, and back", pack(back...))
}

func TestDecodeNumbers(t *testing.T) {
	first := counter(7, 5, []api.Bucket{{Index: 1, Count: top - 20}}, l(2, 8))
	two := row(0, 1, first, first)
	// The first one by itself, with other numbers: Zero, Sum, Pos, Neg.
	told := func(zero, sum, pos, neg uint64) []byte {
		return fault(two[:1], 6, c(0)+c(zero)+c(sum)+c(pos)+c(neg))
	}
	if got, e := Decode(told(7, top, top-20, 13)); e != api.OK || got[0].H.Count != top || got[0].H.Sum != -1 {
		t.Errorf("as many as there can be: %v, %d", got, e)
	}
	checkRefused(t, "one more than there can be", told(8, 0, top-20, 13))
	checkRefused(t, "one more, of Neg", told(7, 0, top-20, 14))
	checkRefused(t, "twice as many", told(top, 0, top, top))
	checkRefused(t, "none of Pos", told(1, 0, 0, 1))
	checkRefused(t, "none of Neg", told(1, 0, 1, 0))
	checkRefused(t, "Zero laid longer", fault(two[:1], 6, c(0)+longer(c(7))+c(5)+c(1)+c(1)))
	checkRefused(t, "Sum laid longer", fault(two[:1], 6, c(0)+c(7)+longer(c(5))+c(1)+c(1)))
	checkRefused(t, "Pos laid longer", fault(two[:1], 6, c(0)+c(7)+c(5)+longer(c(1))+c(1)))
	// The second one, by how much each is more.
	more := func(zero, sum, pos, neg int64) []byte {
		return fault(two, 7, c(0)+w(zero)+w(sum)+w(pos)+w(neg))
	}
	if got, e := Decode(more(1, -6, 2, 2)); e != api.OK || got[1].H.Count != first.Count+5 || got[1].H.Sum != -1 {
		t.Errorf("more: %v, %d", got, e)
	}
	if got, e := Decode(more(0, math.MinInt64, 0, 0)); e != api.OK || got[1].H.Sum != math.MinInt64+5 {
		t.Errorf("the Sum round: %v, %d", got, e)
	}
	checkRefused(t, "more than there can be", more(1, 0, 5, 0))
	checkRefused(t, "less of Zero", more(-1, 0, 0, 0))
	checkRefused(t, "less of Pos", more(0, 0, -1, 0))
	checkRefused(t, "less of Neg", more(0, 0, 0, -1))
	checkRefused(t, "round to less of Pos", more(0, 0, 21, 0))
	g := two[0].H
	g.Kind = api.Gauge
	gauges := row(0, 1, g, g)
	if got, e := Decode(fault(gauges, 7, c(0)+w(-7)+w(0)+w(21)+w(-8))); e != api.OK || !equal(got[1:], []api.Sample{{T: 1, H: gauge(0, 5, nil, nil)}}) {
		t.Errorf("a gauge that got less: %v, %d", got, e)
	}
}

func TestDecodeLength(t *testing.T) {
	for _, all := range told() {
		b := pack(letters(all)...)
		checkRefused(t, "none", nil)
		checkRefused(t, "an empty list", []byte{})
		for n := range b {
			checkRefused(t, "fewer bytes", b[:n])
		}
		for _, more := range []byte{0, 1, 128, 255} {
			checkRefused(t, "a byte more", append(bytes.Clone(b), more))
			checkRefused(t, "a byte ahead", append([]byte{more}, b...))
		}
		checkRefused(t, "more bytes", append(bytes.Clone(b), make([]byte, 100)...))
		checkRefused(t, "twice", append(bytes.Clone(b), b...))
		long := len(strings.Join(letters(all), ""))
		for i := long; i < 8*len(b); i++ {
			turn := bytes.Clone(b)
			turn[i/8] ^= 128 >> (i % 8)
			checkRefused(t, "a bit behind", turn)
		}
	}
}

// told are some chunks.
func told() [][]api.Sample {
	return [][]api.Sample{
		row(0, 1, counter(0, 0, nil, nil)),
		row(api.MaxTime, 1, counter(top, math.MinInt64, nil, nil)),
		row(5, 1, gauge(1, -2, l(-3, 4, 5, 6), l(7, 8, 8, 9))),
		row(5, 9, counter(1, -2, l(-3, 4), nil), counter(1, 9, l(-3, 5), l(8, 1))),
		row(5, 9, gauge(1, -2, l(-3, 4), nil), gauge(0, 9, l(-2, 5), l(8, 1)), gauge(7, 0, nil, nil)),
		{{T: 1, H: gauge(3, 0, nil, nil)}, {T: 3, H: gauge(3, 1, nil, nil)}, {T: 4, H: gauge(9, 2, nil, nil)}, {T: 400, H: gauge(0, 0, l(2, 2), l(4, 1))}},
		many(32, fine(l(100, 1, 101, 2, 105, 3), l(-7, 70))),
		row(0, 3, of(api.Hist{Schema: -4, ZeroAt: 0, Zero: 1, Pos: l(1, 2), Neg: l(64, 1)}), of(api.Hist{Schema: -4, ZeroAt: 0, Zero: 2, Pos: l(1, 2), Neg: l(64, 1)})),
	}
}

// Bytes of which a bit is turned are refused, or just those of what they tell.
func TestDecodeTurned(t *testing.T) {
	chunks := told()
	r := rand.New(rand.NewPCG(9, 1))
	for range 12 {
		chunks = append(chunks, drawn(r))
	}
	taken := 0
	for _, all := range chunks {
		b := pack(letters(all)...)
		for i := range 8 * min(len(b), 120) {
			turn := bytes.Clone(b)
			turn[i/8] ^= 128 >> (i % 8)
			got, e := Decode(turn)
			if e == api.ErrForm && len(got) == 0 {
				continue
			}
			taken++
			if e != api.OK || Check(got) != api.OK || !bytes.Equal(pack(letters(got)...), turn) {
				t.Fatalf("%s tells %v, %d", plain(turn), got, e)
			}
		}
	}
	if taken < 1000 {
		t.Errorf("only %d were taken", taken)
	}
}

// Any bytes are refused, or just those of what they tell.
func TestDecodeAnything(t *testing.T) {
	r := rand.New(rand.NewPCG(9, 2))
	taken := 0
	for range 100000 {
		b := make([]byte, r.IntN(14))
		for i := range b {
			b[i] = byte(r.Uint32() & r.Uint32())
		}
		got, e := Decode(b)
		if e == api.ErrForm && len(got) == 0 {
			continue
		}
		taken++
		if e != api.OK || Check(got) != api.OK || !bytes.Equal(pack(letters(got)...), b) {
			t.Fatalf("%s tells %v, %d", plain(b), got, e)
		}
	}
	if taken < 100 {
		t.Errorf("only %d were taken", taken)
	}
}

// number is a count, most often a small one.
func number(r *rand.Rand) uint64 {
	switch r.IntN(8) {
	case 0:
		return r.Uint64() >> r.IntN(64)
	case 1:
		return 1 << r.IntN(64)
	}
	return uint64(1 + r.IntN(20))
}

// side are buckets of a schema, or none.
func side(r *rand.Rand, schema int, from int) []api.Bucket {
	var out []api.Bucket
	i := max(from, least(schema))
	for range r.IntN(6) {
		if i > most(schema) {
			break
		}
		out = append(out, api.Bucket{Index: i, Count: number(r)})
		i += 1 + r.IntN(1+r.IntN(9))
	}
	return out
}

// anyHist is a histogram that may be, like another one, as far as may be, if it isn't to be wild.
func anyHist(r *rand.Rand, like api.Hist, wild bool) api.Hist {
	for {
		h := like
		h.Zero = number(r) - 1
		h.Sum = int64(number(r)) - int64(number(r))
		if wild {
			h.Schema = schemas()[r.IntN(13)]
			h.ZeroAt = []int{api.NoZero, api.NoZero, -5000, -256, 0}[r.IntN(5)]
			h.Kind = r.IntN(2)
		}
		h.Pos, h.Neg = side(r, h.Schema, 1+r.IntN(3)), side(r, h.Schema, 1+r.IntN(3))
		if h.Kind == api.Counter && like.Kind == api.Counter && h.Schema == like.Schema && r.IntN(9) > 0 {
			h.Zero = like.Zero + h.Zero%5
			h.Pos, h.Neg = slices.Clone(like.Pos), slices.Clone(like.Neg)
			for i := range h.Pos {
				h.Pos[i].Count += number(r) % 4
			}
		}
		if h = of(h); hist.Check(h) == api.OK {
			return h
		}
		if r.IntN(50) == 0 {
			like = hist.Empty(like.Kind, like.Schema)
		}
	}
}

// anySamples are samples of which most fit, often.
func anySamples(r *rand.Rand, long int) []api.Sample {
	var out []api.Sample
	h := anyHist(r, hist.Empty(r.IntN(2), 0), true)
	at := int64(r.IntN(100))
	for range long {
		out = append(out, api.Sample{T: at, H: h})
		h = anyHist(r, h, r.IntN(25) == 0)
		switch r.IntN(30) {
		case 0:
			at -= int64(r.IntN(3))
		case 1:
			at += 1 << r.IntN(30)
		default:
			at += 1 + int64(r.IntN(5))
		}
		at = max(at, 0)
	}
	return out
}

// drawn is a chunk.
func drawn(r *rand.Rand) []api.Sample {
	all := anySamples(r, 1+r.IntN(40))
	for i, s := range all {
		if !pictured(all[:i], s) {
			return all[:i]
		}
	}
	return all
}

func TestDrawn(t *testing.T) {
	r := rand.New(rand.NewPCG(9, 3))
	for range 1000 {
		all := drawn(r)
		checkChunk(t, "drawn", all, letters(all)...)
		if t.Failed() {
			return
		}
	}
}

func TestDrawnCuts(t *testing.T) {
	r := rand.New(rand.NewPCG(9, 4))
	cuts := 0
	for range 1000 {
		all := anySamples(r, r.IntN(80))
		var want []int
		begin := 0
		for i, s := range all {
			fits := pictured(all[begin:i], s)
			if Fits(all[begin:i], s) != fits {
				t.Fatalf("Fits(%v, %v) is %t", all[begin:i], s, !fits)
			}
			e := Check(all[begin : i+1])
			if fits && e != api.OK || !fits && e != api.ErrForm {
				t.Fatalf("Check(%v) is %d", all[begin:i+1], e)
			}
			if !fits {
				want = append(want, i-begin)
				begin = i
			}
		}
		if len(all) > 0 {
			want = append(want, len(all)-begin)
		}
		cuts += len(want)
		checkCut(t, "drawn", all, want...)
		for _, one := range Cut(all) {
			b, e := Encode(one)
			if got, f := Decode(b); e != api.OK || f != api.OK || !equal(got, one) {
				t.Fatalf("%v is encoded by %d, and decoded as %v, %d", one, e, got, f)
			}
		}
	}
	if cuts < 2000 {
		t.Errorf("only %d chunks", cuts)
	}
}

// R3: what is handed out is new, and no two lists of it are one.
func TestNothingIsShared(t *testing.T) {
	all := many(70, gauge(1, 2, l(3, 4), l(5, 6)))
	was := copied(all)
	cut := Cut(all)
	for i, one := range cut {
		for k := range one {
			one[k].H.Pos[0].Count, one[k].H.Neg[0].Count = uint64(i), uint64(k)
			one[k].T = -1
		}
		// Behind a list's end there is no other one's beginning.
		_ = append(one, api.Sample{T: -2})
	}
	if !equal(all, was) {
		t.Error("what is cut is shared with what is handed in")
	}
	for i, one := range cut {
		for k, s := range one {
			if s.T != -1 || s.H.Pos[0].Count != uint64(i) || s.H.Neg[0].Count != uint64(k) {
				t.Error("what is cut is shared with others")
			}
		}
	}
	b, _ := Encode(all[:3])
	first, _ := Decode(b)
	first[0].H.Pos[0].Count = 99
	clear(b)
	if first[1].H.Pos[0].Count != 4 || first[2].T != 2 {
		t.Error("what is decoded is shared")
	}
	again, _ := Encode(all[:3])
	second, e := Decode(again)
	if !equal(second, all[:3]) || e != api.OK {
		t.Error("what is encoded is shared")
	}
}

// R4: empty lists and none are one.
func TestEmptyLists(t *testing.T) {
	h := gauge(1, 2, []api.Bucket{}, []api.Bucket{})
	all := row(3, 1, h, gauge(1, 2, nil, nil))
	checkChunk(t, "empty lists", all, letters(all)...)
	checkFits(t, "empty lists", all[:1], all[1], true)
}

// R1: whatever is handed in, each call ends, and none panics.
func TestWhatever(t *testing.T) {
	r := rand.New(rand.NewPCG(9, 5))
	ends := []int{math.MinInt, math.MinInt + 1, -end, -4, -1, 0, 1, 2, 8, end, 1 << 40, math.MaxInt - 1, math.MaxInt}
	anything := func() int { return ends[r.IntN(len(ends))] }
	buckets := func() []api.Bucket {
		var out []api.Bucket
		for range r.IntN(4) {
			out = append(out, api.Bucket{Index: anything(), Count: uint64(anything())})
		}
		return out
	}
	for range 20000 {
		var all []api.Sample
		for range r.IntN(4) {
			h := api.Hist{Kind: anything(), Schema: anything(), ZeroAt: anything(), Zero: uint64(anything()), Count: uint64(anything()), Sum: int64(anything())}
			h.Pos, h.Neg = buckets(), buckets()
			if r.IntN(2) == 0 {
				h.Kind, h.Schema, h.ZeroAt = api.Counter, 0, api.NoZero
			}
			all = append(all, api.Sample{T: int64(anything()), H: h})
		}
		Fits(all, api.Sample{T: int64(anything())})
		if len(all) > 0 {
			Fits(all[1:], all[0])
		}
		var back []api.Sample
		for _, one := range Cut(all) {
			back = append(back, one...)
		}
		if !equal(back, all) {
			t.Fatalf("%v is cut to %v", all, back)
		}
		b, e := Encode(all)
		if e != Check(all) || e != api.OK && len(b) > 0 {
			t.Fatalf("%v: %s, %d", all, plain(b), e)
		}
	}
	long := make([]api.Bucket, 300000)
	for i := range long {
		long[i] = api.Bucket{Index: i, Count: 1}
	}
	s := api.Sample{T: 1, H: gauge(0, 0, long, long)}
	Fits([]api.Sample{s, s}, s)
	if got := Cut([]api.Sample{s}); len(got) != 1 || !equal(got[0], []api.Sample{s}) {
		t.Error("one of many buckets isn't cut to itself")
	}
	checkWrong(t, "many buckets", []api.Sample{s}, api.ErrLimit)
}
