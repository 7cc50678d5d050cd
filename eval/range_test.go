package eval

import (
	"fmt"
	"math"
	"pluvial/api"
	"pluvial/bound"
	"pluvial/rank"
	"testing"
)

func checkRange(t *testing.T, a Ask, l []api.Sample, to, step int64, want []Point, wantE api.Errno) {
	t.Helper()
	kept(t, "Range", l, func(l []api.Sample) {
		t.Helper()
		got, e := Range(a, l, to, step)
		same(t, fmt.Sprintf("Range(%+v, %v, %d, %d)", a, l, to, step), got, want, e, wantE)
	})
}

// counts are points at times, each with how many observations there are; -1: with no data.
func counts(pairs ...int64) []Point {
	var out []Point
	for i := 0; i < len(pairs); i += 2 {
		p := Point{At: pairs[i], A: Answer{N: uint64(pairs[i+1])}}
		if pairs[i+1] < 0 {
			p = Point{At: pairs[i], Err: api.ErrNoData}
		}
		out = append(out, p)
	}
	return out
}

// growing has as many observations as its time is, at 0, 3, 6, 7, 12.
func growing() []api.Sample {
	var out []api.Sample
	for _, t := range []int64{0, 3, 6, 7, 12} {
		out = append(out, at(t, of(api.Hist{ZeroAt: api.NoZero, Zero: uint64(t), Sum: 10 * t})))
	}
	return out
}

// P19.2

func TestRangeTold(t *testing.T) {
	l := growing()
	for _, c := range []struct {
		since, at, to, step int64
		want                []Point
	}{
		{-1, 0, 12, 3, counts(0, 0, 3, 3, 6, 6, 9, -1, 12, 12)},
		{-3, 0, 12, 3, counts(0, 0, 3, 3, 6, 6, 9, 7, 12, 12)},
		// As far behind at each point: a sample is in the window no longer than that.
		{-1, 0, 8, 1, counts(0, 0, 1, -1, 2, -1, 3, 3, 4, -1, 5, -1, 6, 6, 7, 7, 8, -1)},
		{-2, 0, 8, 1, counts(0, 0, 1, 0, 2, -1, 3, 3, 4, 3, 5, -1, 6, 6, 7, 7, 8, 7)},
		{-3, 0, 8, 1, counts(0, 0, 1, 0, 2, 0, 3, 3, 4, 3, 5, 3, 6, 6, 7, 7, 8, 7)},
		{1, 2, 13, 2, counts(2, -1, 4, -1, 6, 6, 8, -1, 10, -1, 12, 12)},
		{1, 3, 13, 2, counts(3, 3, 5, -1, 7, 7, 9, -1, 11, -1, 13, 12)},
		{-end, 0, 20, 5, counts(0, 0, 5, 3, 10, 7, 15, 12, 20, 12)},
		// None at all of a window that has no times.
		{0, 0, 4, 3, counts(0, -1, 3, -1)},
		{6, 6, 7, 1, counts(6, -1, 7, -1)},
		// Up to below At, at it, a step behind it, and one below and above that.
		{2, 3, 2, 4, nil},
		{2, 3, 3, 4, counts(3, 3)},
		{2, 3, 6, 4, counts(3, 3)},
		{2, 3, 7, 4, counts(3, 3, 7, 7)},
		{2, 3, 8, 4, counts(3, 3, 7, 7)},
		{2, 3, 10, 4, counts(3, 3, 7, 7)},
		{2, 3, 11, 4, counts(3, 3, 7, 7, 11, -1)},
		{2, 3, 3, 1, counts(3, 3)},
		{2, 3, 4, 1, counts(3, 3, 4, -1)},
		{2, 3, 2, 1, nil},
		{2, 3, 0, 1, nil},
		{2, 3, -1, 1, nil},
		{2, 3, math.MinInt64, 1, nil},
		{2, 3, math.MinInt64, math.MaxInt64, nil},
		// A step that is far behind all.
		{2, 3, end, end, counts(3, 3)},
		{2, 3, end, end - 3, counts(3, 3, end, -1)},
		{2, 3, end, math.MaxInt64, counts(3, 3)},
		{-end, 0, end, end, counts(0, 0, end, 12)},
		{-end, 0, end, math.MaxInt64, counts(0, 0)},
	} {
		checkRange(t, Ask{Kind: Count, Since: c.since, At: c.at}, l, c.to, c.step, c.want, api.OK)
	}
}

func TestRangeOfNoSamples(t *testing.T) {
	for _, l := range [][]api.Sample{nil, {}} {
		for _, a := range asks(4, 5) {
			checkRange(t, a, l, 9, 2, counts(5, -1, 7, -1, 9, -1), api.OK)
			checkRange(t, a, l, 4, 2, nil, api.OK)
		}
	}
}

// Each kind is answered at each point, or has an error there.
func TestRangeKinds(t *testing.T) {
	l := rising()
	// At 15, 30, 45, of windows that are 16 wide.
	points := func(answers ...any) []Point {
		var out []Point
		for i, x := range answers {
			p := Point{At: []int64{15, 30, 45}[i]}
			switch x := x.(type) {
			case Answer:
				p.A = x
			case api.Errno:
				p.Err = x
			}
			out = append(out, p)
		}
		return out
	}
	key := func(index int) Answer { return Answer{Key: bound.Key{Side: 1, Index: index}} }
	part := func(below, midst, all uint64) Answer {
		return Answer{Part: rank.Part{Below: below, Midst: midst, All: all}}
	}
	for _, c := range []struct {
		a    Ask
		want []Point
	}{
		{Ask{Kind: Raw}, points(Answer{H: l[0].H}, Answer{H: l[2].H}, Answer{H: l[3].H})},
		{Ask{Kind: Sum}, points(Answer{Sum: 10}, Answer{Sum: 30}, Answer{Sum: 4})},
		{Ask{Kind: Count}, points(Answer{N: 2}, Answer{N: 13}, Answer{N: 4})},
		{Ask{Kind: Quantile, Part: 1, Of: 2}, points(key(1), key(2), key(1))},
		{Ask{Kind: Quantile, Part: 1, Of: 1}, points(key(1), key(3), key(3))},
		{Ask{Kind: Quantile, Part: 2, Of: 1}, points(api.ErrArg, api.ErrArg, api.ErrArg)},
		{Ask{Kind: Below, Place: rank.Place{Side: 1, Units: 600}}, points(part(2, 0, 2), part(7, 6, 13), part(3, 1, 4))},
		{Ask{Kind: Below, Place: rank.Place{Side: 1, Units: 1<<18 + 1}}, points(api.ErrArg, api.ErrArg, api.ErrArg)},
		{Ask{Kind: Rise}, points(api.ErrNoData, Answer{H: counter(5, 2, 4, 3, 5)}, Answer{H: counter(4, 1, 3, 3, 1)})},
		// That a kind is none is told at each point, not of the range.
		{Ask{Kind: -1}, points(api.ErrArg, api.ErrArg, api.ErrArg)},
		{Ask{Kind: 6}, points(api.ErrArg, api.ErrArg, api.ErrArg)},
		{Ask{Kind: math.MinInt}, points(api.ErrArg, api.ErrArg, api.ErrArg)},
		{Ask{Kind: math.MaxInt}, points(api.ErrArg, api.ErrArg, api.ErrArg)},
	} {
		c.a.Since, c.a.At = -1, 15
		checkRange(t, c.a, l, 59, 15, c.want, api.OK)
		checkRange(t, c.a, l, 45, 15, c.want, api.OK)
		checkRange(t, c.a, l, 44, 15, c.want[:2], api.OK)
		checkRange(t, c.a, l, 14, 15, nil, api.OK)
	}
}

// A point with an error hasn't any weight in others.
func TestRangeErrors(t *testing.T) {
	l := rising()
	l[2].H.Kind = api.Gauge
	none := func(at int64, e api.Errno) Point { return Point{At: at, Err: e} }
	rose := func(at int64, h api.Hist) Point { return Point{At: at, A: Answer{H: h}} }
	checkRange(t, Ask{Kind: Rise, Since: -10, At: 10}, l, 80, 10, []Point{
		none(10, api.ErrNoData), rose(20, counter(15, 1, 1, 3, 1)), none(30, api.ErrKind), none(40, api.ErrKind),
		rose(50, counter(-5)), rose(60, counter(10, 4, 7)), none(70, api.ErrNoData), none(80, api.ErrNoData),
	}, api.OK)
}

func TestRangeWrong(t *testing.T) {
	l := growing()
	for _, c := range []struct {
		since, at, to, step int64
		e                   api.Errno
	}{
		{-end, 0, 0, 1, api.OK},
		{-end - 1, 0, 0, 1, api.ErrArg},
		{math.MinInt64, 0, 0, 1, api.ErrArg},
		{5, 5, 5, 1, api.OK},
		{6, 5, 5, 1, api.ErrArg},
		{math.MaxInt64, 5, 5, 1, api.ErrArg},
		{-1, 0, 0, 1, api.OK},
		{0, 0, 0, 1, api.OK},
		{-1, -1, 0, 1, api.ErrArg},
		{-5, -1, 0, 1, api.ErrArg},
		{-end, -end, 0, 1, api.ErrArg},
		{math.MinInt64, math.MinInt64, 0, 1, api.ErrArg},
		{end - 1, end, end, 1, api.OK},
		{end, end, end, 1, api.OK},
		{end - 1, end, end + 1, 1, api.ErrArg},
		{end, end + 1, end + 1, 1, api.ErrArg},
		{0, 1, end + 1, end, api.ErrArg},
		{0, 1, math.MaxInt64, math.MaxInt64, api.ErrArg},
		{0, 1, 1, 0, api.ErrArg},
		{0, 1, 1, -1, api.ErrArg},
		{0, 1, 1, math.MinInt64, api.ErrArg},
		{0, 1, 1, math.MaxInt64, api.OK},
		// Wrong also where there is no point.
		{6, 5, 0, 1, api.ErrArg},
		{-end - 1, 5, 0, 1, api.ErrArg},
		{-2, -1, -2, 1, api.ErrArg},
		{4, 5, 0, 0, api.ErrArg},
		{4, 5, 0, -1, api.ErrArg},
		// At may be behind all times: then there is none.
		{end, end + 1, end, 1, api.OK},
		{end + 1, end + 1, end, 1, api.OK},
		{math.MaxInt64, math.MaxInt64, end, math.MaxInt64, api.OK},
		{-end, math.MaxInt64, math.MinInt64, 1, api.OK},
		// There may be 4096 points, and no more.
		{0, 1, 4096, 1, api.OK},
		{0, 1, 4097, 1, api.ErrLimit},
		{-1, 0, 4095, 1, api.OK},
		{-1, 0, 4096, 1, api.ErrLimit},
		{-1, 0, 2*4096 - 1, 2, api.OK},
		{-1, 0, 2 * 4096, 2, api.ErrLimit},
		{-1, 0, end, 1, api.ErrLimit},
		{-1, 0, end, 1 << 28, api.ErrLimit},
		{-1, 1, end, 1 << 28, api.OK},
		{-1, 0, end, 1<<28 + 1, api.OK},
		{-end, end - 4095, end, 1, api.OK},
		{-end, end - 4096, end, 1, api.ErrLimit},
		// What is no argument is told ahead of what is too much.
		{2, 1, 4097, 1, api.ErrArg},
		{-end - 1, 1, 4097, 1, api.ErrArg},
		{-2, -1, 4097, 1, api.ErrArg},
		{0, 1, end + 1, 1, api.ErrArg},
		{0, 1, 4097, 0, api.ErrArg},
	} {
		for _, kind := range append(noKinds(), kinds()...) {
			a := Ask{Kind: kind, Since: c.since, At: c.at}
			got, e := Range(a, l, c.to, c.step)
			if e != c.e || e != api.OK && len(got) > 0 {
				t.Errorf("Range(%+v, to %d, step %d) has %d points, %d; want %d", a, c.to, c.step, len(got), e, c.e)
			}
		}
	}
}

// As many points as there may be, each with its own.
func TestRangeMost(t *testing.T) {
	var l []api.Sample
	for i := range int64(5000) {
		l = append(l, at(3*i, of(api.Hist{ZeroAt: api.NoZero, Zero: uint64(i)})))
	}
	a := Ask{Kind: Count, Since: -3, At: 0}
	for _, step := range []int64{1, 2, 3} {
		points, e := Range(a, l, 4095*step+step-1, step)
		if len(points) != 4096 || e != api.OK {
			t.Fatal(len(points), e)
		}
		for i, p := range points {
			want := Answer{N: uint64(int64(i) * step / 3)}
			if p.At != int64(i)*step || text(p.A) != text(want) || p.Err != api.OK {
				t.Fatal(i, step, p)
			}
		}
	}
	// At the end of all times.
	last := []api.Sample{at(end-1, counter(0, 1, 1)), at(end, counter(0, 1, 2))}
	points, e := Range(Ask{Kind: Count, Since: end - 4097, At: end - 4095}, last, end, 1)
	if len(points) != 4096 || e != api.OK {
		t.Fatal(len(points), e)
	}
	same(t, "the last points", points[4093:], counts(end-2, -1, end-1, 1, end, 2), e, api.OK)
}
