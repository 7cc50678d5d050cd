package eval

import (
	"fmt"
	"math"
	"pluvial/api"
	"pluvial/bound"
	"pluvial/rank"
	"slices"
	"testing"
)

// The tests hold the package against answers told one by one, and against a second reckoning that goes through all samples (drawn_test.go). What the lower layers promise (quantiles, parts, histograms made alike) is taken from them.

const (
	top = math.MaxUint64
	end = 1 << 40
)

// kinds are all that there are; noKinds are some that are none.
func kinds() []int { return []int{Raw, Sum, Count, Quantile, Below, Rise} }

func noKinds() []int { return []int{-1, 6, 7, math.MinInt, math.MaxInt} }

// l are buckets by pairs: an index, and how many it has.
func l(pairs ...int) []api.Bucket {
	var out []api.Bucket
	for i := 0; i < len(pairs); i += 2 {
		out = append(out, api.Bucket{Index: pairs[i], Count: uint64(pairs[i+1])})
	}
	return out
}

// of is a histogram with a Count that is right.
func of(h api.Hist) api.Hist {
	h.Count = h.Zero
	for _, b := range slices.Concat(h.Pos, h.Neg) {
		h.Count += b.Count
	}
	return h
}

// counter is one by the schema 0, with buckets of Pos.
func counter(sum int64, pairs ...int) api.Hist {
	return of(api.Hist{ZeroAt: api.NoZero, Sum: sum, Pos: l(pairs...)})
}

// gauge is a histogram that goes up and down.
func gauge(h api.Hist) api.Hist {
	h.Kind = api.Gauge
	return h
}

// at is a sample.
func at(t int64, h api.Hist) api.Sample { return api.Sample{T: t, H: h} }

// text is all of anything: nil and empty lists are one.
func text(x any) string { return fmt.Sprintf("%+v", x) }

// roomy are the same samples, with room behind the ends of all lists, that isn't empty.
func roomy(l []api.Sample) []api.Sample {
	out := make([]api.Sample, 0, len(l)+2)
	for _, s := range l {
		s.H = roomyHist(s.H)
		out = append(out, s)
	}
	out = append(out, at(7, counter(1, 1, 1)), at(9, counter(2, 1, 2)))
	return out[:len(l)]
}

func roomyHist(h api.Hist) api.Hist {
	h.Pos, h.Neg = roomyBuckets(h.Pos), roomyBuckets(h.Neg)
	return h
}

func roomyBuckets(l []api.Bucket) []api.Bucket {
	return append(slices.Clone(l), api.Bucket{Index: 77, Count: 7}, api.Bucket{Index: 78, Count: 8})[:len(l)]
}

// whole is the text of samples with the room behind the ends of all lists.
func whole(l []api.Sample) string {
	l = l[:cap(l)]
	out := text(l)
	for _, s := range l {
		out += text(s.H.Pos[:cap(s.H.Pos)]) + text(s.H.Neg[:cap(s.H.Neg)])
	}
	return out
}

// kept asserts that samples that are handed in are as they were.
func kept(t *testing.T, what string, l []api.Sample, do func(l []api.Sample)) {
	t.Helper()
	l = roomy(l)
	was := whole(l)
	do(l)
	if now := whole(l); now != was {
		t.Errorf("by %s the samples %s became %s", what, was, now)
	}
}

// same asserts that two things are the same, in all that they tell.
func same(t *testing.T, what string, got, want any, e, wantE api.Errno) {
	t.Helper()
	if text(got) != text(want) || e != wantE {
		t.Errorf("%s is %s, %d; want %s, %d", what, text(got), e, text(want), wantE)
	}
}

func checkWindow(t *testing.T, l []api.Sample, since, at int64, want ...api.Sample) {
	t.Helper()
	kept(t, "Window", l, func(l []api.Sample) {
		t.Helper()
		same(t, fmt.Sprintf("Window(%v, %d, %d)", l, since, at), Window(l, since, at), want, api.OK, api.OK)
	})
}

func checkOf(t *testing.T, a Ask, l []api.Sample, want api.Hist, wantE api.Errno) {
	t.Helper()
	kept(t, "Of", l, func(l []api.Sample) {
		t.Helper()
		got, e := Of(a, l)
		same(t, fmt.Sprintf("Of(%+v, %v)", a, l), got, want, e, wantE)
	})
}

func checkFinish(t *testing.T, a Ask, h api.Hist, want Answer, wantE api.Errno) {
	t.Helper()
	kept(t, "Finish", []api.Sample{at(0, h)}, func(l []api.Sample) {
		t.Helper()
		got, e := Finish(a, l[0].H)
		same(t, fmt.Sprintf("Finish(%+v, %v)", a, h), got, want, e, wantE)
	})
}

func checkDo(t *testing.T, a Ask, l []api.Sample, want Answer, wantE api.Errno) {
	t.Helper()
	kept(t, "Do", l, func(l []api.Sample) {
		t.Helper()
		got, e := Do(a, l)
		same(t, fmt.Sprintf("Do(%+v, %v)", a, l), got, want, e, wantE)
	})
}

// asks are questions of one window, of each kind, that most histograms can be asked.
func asks(since, at int64) []Ask {
	return []Ask{
		{Kind: Raw, Since: since, At: at},
		{Kind: Sum, Since: since, At: at},
		{Kind: Count, Since: since, At: at},
		{Kind: Quantile, Part: 1, Of: 2, Since: since, At: at},
		{Kind: Below, Place: rank.Place{Side: 1, Units: 600}, Since: since, At: at},
		{Kind: Rise, Since: since, At: at},
	}
}

func TestKindsAreNumbered(t *testing.T) {
	if !slices.Equal(kinds(), []int{0, 1, 2, 3, 4, 5}) {
		t.Error(kinds())
	}
	if MaxPoints != 4096 {
		t.Error(MaxPoints)
	}
}

func TestExample(t *testing.T) {
	two := []api.Sample{at(5, counter(0, 1, 2)), at(9, counter(0, 1, 3))}
	checkDo(t, Ask{Kind: Count, Since: 0, At: 8}, two, Answer{N: 2}, api.OK)
	checkDo(t, Ask{Kind: Count, Since: 0, At: 9}, two, Answer{N: 3}, api.OK)
}

// P19.1

// five are samples at the first and the last time, and between them two that stand side by side.
func five() []api.Sample {
	return []api.Sample{
		at(0, counter(1, 1, 1)),
		at(5, gauge(of(api.Hist{Schema: -4, ZeroAt: 9000, Zero: 3, Sum: -8, Pos: l(4, 1, 9, 2), Neg: l(5, 5)}))),
		at(6, counter(math.MinInt64, 2, 2)),
		at(9, gauge(of(api.Hist{Schema: 8, ZeroAt: api.NoZero, Sum: math.MaxInt64, Neg: l(-7, 3)}))),
		at(end, counter(5)),
	}
}

func TestWindowTold(t *testing.T) {
	l := five()
	checkWindow(t, l, -1, end, l...)
	checkWindow(t, l, math.MinInt64, math.MaxInt64, l...)
	// Just at Since is below it, one above it is in it.
	checkWindow(t, l, 0, end, l[1:]...)
	checkWindow(t, l, 4, 9, l[1:4]...)
	checkWindow(t, l, 5, 9, l[2:4]...)
	checkWindow(t, l, 6, 9, l[3])
	// Just at At is in it, one above it is behind.
	checkWindow(t, l, 4, 8, l[1:3]...)
	checkWindow(t, l, 4, 6, l[1:3]...)
	checkWindow(t, l, 4, 5, l[1])
	checkWindow(t, l, 4, 4)
	checkWindow(t, l, -1, end-1, l[:4]...)
	checkWindow(t, l, -1, 0, l[0])
	checkWindow(t, l, end-1, end, l[4])
	// Between two there is none; nor is there where Since is At, or above.
	checkWindow(t, l, 6, 8)
	checkWindow(t, l, 9, end-1)
	checkWindow(t, l, -2, -1)
	checkWindow(t, l, end, end+1)
	for _, s := range l {
		checkWindow(t, l, s.T-1, s.T, s)
		checkWindow(t, l, s.T, s.T)
		checkWindow(t, l, s.T, s.T-1)
	}
	checkWindow(t, l, 9, 5)
	checkWindow(t, l, end, 0)
	checkWindow(t, l, math.MaxInt64, math.MinInt64)
	checkWindow(t, nil, -1, end)
	checkWindow(t, []api.Sample{}, -1, end)
}

// edges are times at which something may go wrong.
func edges() []int64 {
	return []int64{math.MinInt64, math.MinInt64 + 1, -end - 1, -end, -2, -1, 0, 1, 4, 5, 6, 7, 8, 9, 10, end - 1, end, end + 1, math.MaxInt64 - 1, math.MaxInt64}
}

// filtered are the samples above one time, up to another one, looked at one by one.
func filtered(l []api.Sample, since, at int64) []api.Sample {
	var in []api.Sample
	for _, s := range l {
		if s.T > since && s.T <= at {
			in = append(in, s)
		}
	}
	return in
}

func TestWindowEdges(t *testing.T) {
	for n := range len(five()) + 1 {
		for _, since := range edges() {
			for _, to := range edges() {
				l := five()[:n]
				checkWindow(t, l, since, to, filtered(l, since, to)...)
				l = five()[n:]
				checkWindow(t, l, since, to, filtered(l, since, to)...)
			}
		}
	}
}

// What isn't of Rise is of the last one, also of kinds that are none.
func TestOfTheLast(t *testing.T) {
	l := five()
	for _, kind := range append(noKinds(), Raw, Sum, Count, Quantile, Below) {
		// What else is asked has no weight yet, and may be wrong.
		a := Ask{Kind: kind, Part: 3, Of: 2, Place: rank.Place{Side: 2}}
		for _, since := range edges() {
			for _, to := range edges() {
				a.Since, a.At = since, to
				if in := filtered(l, since, to); len(in) > 0 {
					checkOf(t, a, l, in[len(in)-1].H, api.OK)
				} else {
					checkOf(t, a, l, api.Hist{}, api.ErrNoData)
				}
				checkOf(t, a, nil, api.Hist{}, api.ErrNoData)
				checkOf(t, a, []api.Sample{}, api.Hist{}, api.ErrNoData)
			}
		}
	}
}

// rising is a counter at 10, 20, .. 60: it begins anew at 40.
func rising() []api.Sample {
	return []api.Sample{
		at(10, counter(10, 1, 2)),
		at(20, counter(25, 1, 3, 3, 1)),
		at(30, counter(30, 1, 3, 2, 4, 3, 6)),
		at(40, counter(4, 1, 3, 3, 1)),
		at(50, counter(-1, 1, 3, 3, 1)),
		at(60, counter(9, 1, 3, 3, 1, 4, 7)),
	}
}

func TestOfRise(t *testing.T) {
	l := rising()
	for _, c := range []struct {
		since, at int64
		want      api.Hist
	}{
		{0, 20, counter(15, 1, 1, 3, 1)},
		{9, 20, counter(15, 1, 1, 3, 1)},
		{9, 29, counter(15, 1, 1, 3, 1)},
		{0, 30, counter(20, 1, 1, 2, 4, 3, 6)},
		{10, 30, counter(5, 2, 4, 3, 5)},
		// It began anew: all of it is new.
		{20, 40, counter(4, 1, 3, 3, 1)},
		{20, 49, counter(4, 1, 3, 3, 1)},
		{0, 40, counter(24, 1, 4, 2, 4, 3, 7)},
		{0, 50, counter(19, 1, 4, 2, 4, 3, 7)},
		{0, 60, counter(29, 1, 4, 2, 4, 3, 7, 4, 7)},
		{-1, end, counter(29, 1, 4, 2, 4, 3, 7, 4, 7)},
		{math.MinInt64, math.MaxInt64, counter(29, 1, 4, 2, 4, 3, 7, 4, 7)},
		// The window begins with it: all ahead has no weight.
		{30, 60, counter(5, 4, 7)},
		{39, 60, counter(5, 4, 7)},
		// Not a bucket more, but the Sum is another one.
		{30, 50, counter(-5)},
	} {
		a := Ask{Kind: Rise, Since: c.since, At: c.at}
		checkOf(t, a, l, c.want, api.OK)
		checkDo(t, a, l, Answer{H: c.want}, api.OK)
	}
}

// Less than two samples are no rise, of whatever kind.
func TestRiseNoData(t *testing.T) {
	for _, l := range [][]api.Sample{rising(), {at(20, gauge(counter(1, 1, 1)))}, nil, {}} {
		for _, c := range [][2]int64{{0, 9}, {10, 19}, {10, 20}, {19, 20}, {19, 29}, {20, 29}, {20, 20}, {30, 20}, {60, end}, {end, 0}} {
			a := Ask{Kind: Rise, Since: c[0], At: c[1]}
			checkOf(t, a, l, api.Hist{}, api.ErrNoData)
			checkDo(t, a, l, Answer{}, api.ErrNoData)
		}
	}
}

// Only of the window each must be a counter.
func TestRiseKind(t *testing.T) {
	l := rising()
	l[2].H.Kind = api.Gauge
	for _, c := range []struct {
		since, at int64
		want      api.Hist
		e         api.Errno
	}{
		{0, 29, counter(15, 1, 1, 3, 1), api.OK},
		{0, 30, api.Hist{}, api.ErrKind},
		{19, 30, api.Hist{}, api.ErrKind},
		{20, 30, api.Hist{}, api.ErrNoData},
		{29, 40, api.Hist{}, api.ErrKind},
		{0, 60, api.Hist{}, api.ErrKind},
		{30, 60, counter(5, 4, 7), api.OK},
	} {
		a := Ask{Kind: Rise, Since: c.since, At: c.at}
		checkOf(t, a, l, c.want, c.e)
		checkDo(t, a, l, Answer{H: c.want}, c.e)
	}
}

// By another schema, and with a greater ZeroAt, samples are made alike.
func TestRiseOfScales(t *testing.T) {
	fine := of(api.Hist{Schema: 1, ZeroAt: api.NoZero, Sum: 3, Pos: l(3, 2, 4, 1)})
	coarse := of(api.Hist{Schema: 0, ZeroAt: api.NoZero, Sum: 9, Pos: l(2, 5), Neg: l(1, 1)})
	wide := of(api.Hist{Schema: 1, ZeroAt: 384, Zero: 7, Sum: 9, Pos: l(4, 2)})
	for _, c := range []struct {
		l    []api.Sample
		want api.Hist
	}{
		{[]api.Sample{at(1, fine), at(2, coarse)}, of(api.Hist{ZeroAt: api.NoZero, Sum: 6, Pos: l(2, 2), Neg: l(1, 1)})},
		// The fine one has less than the coarse one, so all of it; by the coarse one's schema, as that is the first one's.
		{[]api.Sample{at(1, coarse), at(2, fine)}, of(api.Hist{ZeroAt: api.NoZero, Sum: 3, Pos: l(2, 3)})},
		// Up to 384 units the bucket 3 is about nothing.
		{[]api.Sample{at(1, fine), at(2, wide)}, of(api.Hist{Schema: 1, ZeroAt: 384, Zero: 5, Sum: 6, Pos: l(4, 1)})},
	} {
		checkDo(t, Ask{Kind: Rise, Since: 0, At: 2}, c.l, Answer{H: c.want}, api.OK)
	}
}

// run are buckets of every other index, each with one.
func run(first, long int) []api.Bucket {
	var out []api.Bucket
	for i := range long {
		out = append(out, api.Bucket{Index: first + 2*i, Count: 1})
	}
	return out
}

// In a window by itself each step may be; of all the first that can't be has the error.
func TestRiseTooGreat(t *testing.T) {
	zeros := func(n uint64, sum int64) api.Hist {
		return of(api.Hist{ZeroAt: api.NoZero, Zero: n, Sum: sum})
	}
	many := func(first, long int) api.Hist {
		return of(api.Hist{Schema: 8, ZeroAt: api.NoZero, Pos: run(first, long)})
	}
	for _, c := range []struct {
		what string
		l    []api.Sample
		e    api.Errno
	}{
		{"Sums apart", []api.Sample{at(1, zeros(1, -2)), at(2, zeros(1, math.MaxInt64))}, api.ErrOver},
		{"Sums just not apart", []api.Sample{at(1, zeros(1, -1)), at(2, zeros(1, math.MaxInt64-1))}, api.OK},
		{"Sums together", []api.Sample{at(1, zeros(9, 0)), at(2, zeros(8, math.MaxInt64)), at(3, zeros(7, 1))}, api.ErrOver},
		{"Sums just not together", []api.Sample{at(1, zeros(9, 0)), at(2, zeros(8, math.MaxInt64)), at(3, zeros(7, 0))}, api.OK},
		{"counts", []api.Sample{at(1, zeros(0, 0)), at(2, zeros(top, 0)), at(3, zeros(1, 0))}, api.ErrOver},
		{"counts just not", []api.Sample{at(1, zeros(0, 0)), at(2, zeros(top-1, 0)), at(3, zeros(1, 0))}, api.OK},
		{"buckets", []api.Sample{at(1, many(0, 0)), at(2, many(0, 512)), at(3, many(1, 1))}, api.ErrLimit},
		{"buckets just not", []api.Sample{at(1, many(0, 0)), at(2, many(0, 511)), at(3, many(1, 1))}, api.OK},
		{"buckets ahead of counts", []api.Sample{at(1, many(0, 0)), at(2, many(0, 512)), at(3, many(1, 1)), at(4, zeros(top, 0))}, api.ErrLimit},
		{"counts ahead of buckets", []api.Sample{at(1, zeros(0, 0)), at(2, zeros(top, 0)), at(3, many(0, 512)), at(4, many(1, 1))}, api.ErrOver},
	} {
		a := Ask{Kind: Rise, Since: 0, At: 9}
		if _, e := Do(a, c.l); e != c.e {
			t.Errorf("%s: %d; want %d", c.what, e, c.e)
		}
		if c.e != api.OK {
			checkOf(t, a, c.l, api.Hist{}, c.e)
			checkDo(t, a, c.l, Answer{}, c.e)
		}
		// What is wrong with a rise has no weight where none is asked for.
		last := c.l[len(c.l)-1].H
		checkDo(t, Ask{Kind: Raw, Since: 0, At: 9}, c.l, Answer{H: last}, api.OK)
	}
}

// three has buckets of Neg and of Pos, and Zero, by the schema 1: 2, 3 and 4, 5, and 6, 7 observations.
func three() api.Hist {
	return of(api.Hist{Kind: api.Gauge, Schema: 1, ZeroAt: -300, Zero: 5, Sum: -3, Pos: l(-1, 6, 3, 7), Neg: l(0, 3, 1, 4, 8, 2)})
}

// finished is a histogram, a question, and what it is answered.
type finished struct {
	h    api.Hist
	a    Ask
	want Answer
	e    api.Errno
}

// told are answers told one by one.
func told() []finished {
	none := of(api.Hist{Schema: 3, ZeroAt: 9, Sum: 7})
	great := of(api.Hist{ZeroAt: api.NoZero, Zero: top, Sum: math.MinInt64})
	key := func(side, index int) Answer {
		return Answer{Key: bound.Key{Side: side, Schema: 1, Index: index}}
	}
	part := func(below, midst uint64) Answer { return Answer{Part: rank.Part{Below: below, Midst: midst, All: 27}} }
	return []finished{
		{three(), Ask{Kind: Raw}, Answer{H: three()}, api.OK},
		{none, Ask{Kind: Raw}, Answer{H: none}, api.OK},
		{great, Ask{Kind: Raw}, Answer{H: great}, api.OK},
		{three(), Ask{Kind: Sum}, Answer{Sum: -3}, api.OK},
		{none, Ask{Kind: Sum}, Answer{Sum: 7}, api.OK},
		{great, Ask{Kind: Sum}, Answer{Sum: math.MinInt64}, api.OK},
		{three(), Ask{Kind: Count}, Answer{N: 27}, api.OK},
		{none, Ask{Kind: Count}, Answer{}, api.OK},
		{great, Ask{Kind: Count}, Answer{N: top}, api.OK},
		{three(), Ask{Kind: Quantile, Part: 0, Of: 1}, key(-1, 8), api.OK},
		{three(), Ask{Kind: Quantile, Part: 2, Of: 27}, key(-1, 8), api.OK},
		{three(), Ask{Kind: Quantile, Part: 21, Of: 270}, key(-1, 1), api.OK},
		{three(), Ask{Kind: Quantile, Part: 1, Of: 2}, Answer{}, api.OK},
		{three(), Ask{Kind: Quantile, Part: 20, Of: 27}, key(1, -1), api.OK},
		{three(), Ask{Kind: Quantile, Part: top, Of: top}, key(1, 3), api.OK},
		{great, Ask{Kind: Quantile, Part: 1, Of: 1}, Answer{}, api.OK},
		{none, Ask{Kind: Quantile, Part: 1, Of: 1}, Answer{}, api.ErrNoData},
		{three(), Ask{Kind: Quantile, Part: 0, Of: 0}, Answer{}, api.ErrArg},
		{three(), Ask{Kind: Quantile, Part: 2, Of: 1}, Answer{}, api.ErrArg},
		{three(), Ask{Kind: Quantile, Part: top, Of: top - 1}, Answer{}, api.ErrArg},
		{three(), Ask{Kind: Below, Place: rank.Place{Side: 1, Units: 384}}, part(27, 0), api.OK},
		{three(), Ask{Kind: Below, Place: rank.Place{Side: 1, Units: 383}}, part(20, 7), api.OK},
		{three(), Ask{Kind: Below, Place: rank.Place{}}, part(9, 5), api.OK},
		{three(), Ask{Kind: Below, Place: rank.Place{Side: -1, Units: 128}}, part(2, 0), api.OK},
		{three(), Ask{Kind: Below, Place: rank.Place{Side: -1, Units: 1 << 18}}, part(0, 0), api.OK},
		{none, Ask{Kind: Below, Place: rank.Place{Side: 1, Units: 5}}, Answer{}, api.ErrNoData},
		{three(), Ask{Kind: Below, Place: rank.Place{Side: 2}}, Answer{}, api.ErrArg},
		{three(), Ask{Kind: Below, Place: rank.Place{Side: -2}}, Answer{}, api.ErrArg},
		{three(), Ask{Kind: Below, Place: rank.Place{Units: 1}}, Answer{}, api.ErrArg},
		{three(), Ask{Kind: Below, Place: rank.Place{Side: 1, Units: 1<<18 + 1}}, Answer{}, api.ErrArg},
		{three(), Ask{Kind: Below, Place: rank.Place{Side: -1, Units: -1 << 18}}, Answer{}, api.ErrArg},
		// A question that is wrong ahead of a histogram that has nothing.
		{none, Ask{Kind: Quantile, Part: 2, Of: 1}, Answer{}, api.ErrArg},
		{none, Ask{Kind: Quantile}, Answer{}, api.ErrArg},
		{none, Ask{Kind: Below, Place: rank.Place{Side: 2}}, Answer{}, api.ErrArg},
	}
}

func TestFinishTold(t *testing.T) {
	for _, c := range told() {
		checkFinish(t, c.a, c.h, c.want, c.e)
		// A window has no weight any more, nor has what another kind asks.
		c.a.Since, c.a.At = 9, -9
		if c.a.Kind != Quantile {
			c.a.Part, c.a.Of = 5, 4
		}
		if c.a.Kind != Below {
			c.a.Place = rank.Place{Side: 9, Units: 9}
		}
		checkFinish(t, c.a, c.h, c.want, c.e)
	}
}

// Of a Rise, too, a histogram is answered as it is, whatever its kind.
func TestFinishRise(t *testing.T) {
	for _, c := range told() {
		if c.a.Kind == Raw {
			checkFinish(t, Ask{Kind: Rise}, c.h, c.want, api.OK)
		}
	}
	checkFinish(t, Ask{Kind: Rise}, counter(3, 1, 2), Answer{H: counter(3, 1, 2)}, api.OK)
}

func TestDoTold(t *testing.T) {
	for _, c := range told() {
		c.a.Since, c.a.At = 4, 9
		checkDo(t, c.a, []api.Sample{at(9, c.h)}, c.want, c.e)
		checkDo(t, c.a, []api.Sample{at(5, c.h)}, c.want, c.e)
		checkDo(t, c.a, []api.Sample{at(4, counter(1, 1, 1)), at(5, three()), at(6, c.h), at(10, counter(2, 2, 2))}, c.want, c.e)
		checkDo(t, c.a, []api.Sample{at(5, c.h), at(end, counter(2, 2, 2))}, c.want, c.e)
		// Ahead of what is wrong with the question there must be something to ask.
		checkDo(t, c.a, []api.Sample{at(4, c.h), at(10, c.h)}, Answer{}, api.ErrNoData)
		checkDo(t, c.a, nil, Answer{}, api.ErrNoData)
		checkDo(t, c.a, []api.Sample{}, Answer{}, api.ErrNoData)
		c.a.Since = 9
		checkDo(t, c.a, []api.Sample{at(9, c.h)}, Answer{}, api.ErrNoData)
		c.a.Since = 10
		checkDo(t, c.a, []api.Sample{at(9, c.h), at(10, c.h), at(11, c.h)}, Answer{}, api.ErrNoData)
	}
}

// Windows that end at the ends of time, or beyond; no time is reckoned.
func TestDoEdges(t *testing.T) {
	l := five()
	for _, since := range edges() {
		for _, to := range edges() {
			for _, a := range asks(since, to) {
				want, e := second(a, l)
				checkDo(t, a, l, want, e)
			}
		}
	}
}

// That a kind is none is told ahead of anything else.
func TestKindsThatAreNone(t *testing.T) {
	for _, kind := range noKinds() {
		for _, a := range []Ask{
			{Since: 0, At: 9},
			{Part: 1, Of: 2, Since: 0, At: 9},
			{Part: 2, Of: 1, Place: rank.Place{Side: 7}, Since: 9, At: 0},
			{Since: math.MinInt64, At: math.MaxInt64},
		} {
			a.Kind = kind
			checkFinish(t, a, three(), Answer{}, api.ErrArg)
			checkFinish(t, a, api.Hist{}, Answer{}, api.ErrArg)
			checkDo(t, a, []api.Sample{at(5, three())}, Answer{}, api.ErrArg)
			checkDo(t, a, rising(), Answer{}, api.ErrArg)
			checkDo(t, a, nil, Answer{}, api.ErrArg)
			checkDo(t, a, []api.Sample{}, Answer{}, api.ErrArg)
		}
	}
}

// differing are answers no two of which are one: each differs from the first in one thing alone.
func differing() []Answer {
	first := func() Answer {
		return Answer{H: three(), Sum: 4, N: 5, Key: bound.Key{Side: 1, Schema: 2, Index: 3}, Part: rank.Part{Below: 1, Midst: 2, All: 9}}
	}
	out := []Answer{{}, first()}
	for _, change := range []func(a *Answer){
		func(a *Answer) { a.H.Kind-- },
		func(a *Answer) { a.H.Schema++ },
		func(a *Answer) { a.H.ZeroAt++ },
		func(a *Answer) { a.H.Zero++ },
		func(a *Answer) { a.H.Count++ },
		func(a *Answer) { a.H.Sum = -a.H.Sum },
		func(a *Answer) { a.H.Pos[1].Index++ },
		func(a *Answer) { a.H.Pos[1].Count++ },
		func(a *Answer) { a.H.Pos = a.H.Pos[:1] },
		func(a *Answer) { a.H.Pos = nil },
		func(a *Answer) { a.H.Neg[2].Index++ },
		func(a *Answer) { a.H.Neg[0].Count++ },
		func(a *Answer) { a.H.Neg = a.H.Neg[1:] },
		func(a *Answer) { a.H.Neg = nil },
		func(a *Answer) { a.H.Pos, a.H.Neg = a.H.Neg, a.H.Pos },
		func(a *Answer) { a.H = api.Hist{} },
		func(a *Answer) { a.Sum++ },
		func(a *Answer) { a.Sum = 0 },
		func(a *Answer) { a.Sum += 1 << 32 },
		func(a *Answer) { a.N++ },
		func(a *Answer) { a.N = 0 },
		func(a *Answer) { a.N += 1 << 32 },
		func(a *Answer) { a.Key.Side = -1 },
		func(a *Answer) { a.Key.Schema++ },
		func(a *Answer) { a.Key.Index++ },
		func(a *Answer) { a.Key = bound.Key{} },
		func(a *Answer) { a.Part.Below++ },
		func(a *Answer) { a.Part.Midst++ },
		func(a *Answer) { a.Part.All++ },
		func(a *Answer) { a.Part = rank.Part{} },
	} {
		a := first()
		change(&a)
		out = append(out, a)
	}
	// With 0 elsewhere, as answers are.
	return append(out, Answer{H: three()}, Answer{Sum: 4}, Answer{Sum: -4}, Answer{N: 4}, Answer{Key: bound.Key{Side: 1}}, Answer{Part: rank.Part{All: 4}})
}

func TestSame(t *testing.T) {
	for i, a := range differing() {
		for j, b := range differing() {
			if got := Same(a, b); got != (i == j) {
				t.Errorf("Same(%+v, %+v) is %t", a, b, got)
			}
		}
	}
	// Nil and empty lists are one.
	a, b := Answer{}, Answer{H: api.Hist{Pos: []api.Bucket{}, Neg: []api.Bucket{}}}
	if !Same(a, b) || !Same(b, a) {
		t.Error("an empty list isn't none")
	}
}
