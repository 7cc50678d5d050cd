package eval

import (
	"fmt"
	"maps"
	"math"
	"math/rand/v2"
	"pluvial/api"
	"pluvial/block"
	"pluvial/bound"
	"pluvial/chunk"
	"pluvial/disk"
	"pluvial/hist"
	"pluvial/label"
	"pluvial/match"
	"pluvial/meld"
	"pluvial/rank"
	"pluvial/store"
	"slices"
	"testing"
)

// second is what is answered, reckoned the second way: each sample is looked at by itself.
func second(a Ask, l []api.Sample) (Answer, api.Errno) {
	var h api.Hist
	var all []api.Hist
	for _, s := range filtered(l, a.Since, a.At) {
		h = s.H
		all = append(all, h)
	}
	if a.Kind < 0 || a.Kind > 5 {
		return Answer{}, api.ErrArg
	}
	if a.Kind == 5 {
		h, e := meld.Rise(all...)
		return Answer{H: h}, e
	}
	if len(all) == 0 {
		return Answer{}, api.ErrNoData
	}
	switch a.Kind {
	case 0:
		return Answer{H: h}, api.OK
	case 1:
		return Answer{Sum: h.Sum}, api.OK
	case 2:
		return Answer{N: h.Count}, api.OK
	case 3:
		key, e := rank.Quantile(h, a.Part, a.Of)
		return Answer{Key: key}, e
	}
	part, e := rank.Below(h, a.Place)
	return Answer{Part: part}, e
}

// secondRange is a range, reckoned the second way.
func secondRange(a Ask, l []api.Sample, to, step int64) []Point {
	var out []Point
	for wide := a.At - a.Since; a.At <= to; a.At += step {
		a.Since = a.At - wide
		answer, e := second(a, l)
		out = append(out, Point{At: a.At, A: answer, Err: e})
	}
	return out
}

// drawHist is a histogram that may be, mostly a counter.
func drawHist(r *rand.Rand) api.Hist {
	h := api.Hist{Schema: r.IntN(3) - 1, ZeroAt: api.NoZero, Zero: uint64(r.IntN(4)), Sum: int64(r.IntN(100) - 30)}
	if r.IntN(8) == 0 {
		h.Kind = api.Gauge
	}
	if r.IntN(4) == 0 {
		h.ZeroAt = r.IntN(600) - 300
	}
	side := func() []api.Bucket {
		var out []api.Bucket
		for range r.IntN(4) {
			b := api.Bucket{Index: r.IntN(9) - 3, Count: uint64(r.IntN(5))}
			if bound.Low(h.Schema, b.Index) >= h.ZeroAt {
				out = append(out, b)
			}
		}
		return out
	}
	switch r.IntN(20) {
	case 0:
		h.Zero = top - uint64(r.IntN(99))
	case 1:
		h.Sum = math.MaxInt64 - int64(r.IntN(99))
	case 2:
		h.Sum = math.MinInt64 + int64(r.IntN(99))
	}
	made, e := hist.Make(h, side(), side())
	if e != api.OK {
		return drawHist(r)
	}
	return made
}

// drawSamples are up to so many samples that may be a series', from a time on.
func drawSamples(r *rand.Rand, from int64, most int) []api.Sample {
	var out []api.Sample
	grows := r.IntN(2) == 0
	for range r.IntN(most + 1) {
		h := drawHist(r)
		// A counter that mostly goes up, as such are, isn't to be drawn one by one.
		if n := len(out); grows && n > 0 && r.IntN(4) > 0 {
			if more, e := meld.Add(out[n-1].H, h); e == api.OK {
				h = more
			}
		}
		out = append(out, at(from, h))
		from += 1 + r.Int64N(1+r.Int64N(9))
	}
	return out
}

// drawAsk is a question of a window in the first times, right or wrong.
func drawAsk(r *rand.Rand) Ask {
	a := Ask{Kind: r.IntN(6), Part: uint64(r.IntN(6)), Of: uint64(r.IntN(6)), At: r.Int64N(50)}
	a.Place = rank.Place{Side: r.IntN(3) - 1, Units: r.IntN(3000) - 1000}
	a.Since = a.At - r.Int64N(40) + r.Int64N(3)
	switch r.IntN(30) {
	case 0:
		a.Kind = []int{-1, 6, math.MinInt, math.MaxInt}[r.IntN(4)]
	case 1:
		a.Place.Units <<= 10
	case 2:
		a.Since = []int64{math.MinInt64, -end, math.MaxInt64}[r.IntN(3)]
	case 3:
		a.At = []int64{math.MinInt64, -1, end, math.MaxInt64}[r.IntN(4)]
	}
	if r.IntN(4) > 0 && a.Part > a.Of {
		a.Part, a.Of = a.Of, a.Part
	}
	if r.IntN(4) == 0 {
		a.Place = rank.Place{}
	}
	return a
}

// P19.1

func TestDrawn(t *testing.T) {
	r := rand.New(rand.NewPCG(19, 1))
	tally := map[[2]int]int{}
	for range 10000 {
		l, a := drawSamples(r, r.Int64N(3), 9), drawAsk(r)
		want, e := second(a, l)
		checkDo(t, a, l, want, e)
		checkWindow(t, l, a.Since, a.At, filtered(l, a.Since, a.At)...)
		h, wrong := Of(a, l)
		if wrong == api.OK && hist.Check(h) != api.OK {
			t.Errorf("Of(%+v, %v) is %v, which may not be", a, l, h)
		}
		// Both are what is done, one behind the other.
		if wrong == api.OK {
			checkFinish(t, a, h, want, e)
		} else if e != api.ErrArg && e != wrong {
			t.Errorf("Of(%+v, %v) has %d, Do %d", a, l, wrong, e)
		}
		tally[[2]int{a.Kind, int(e)}]++
	}
	// All that may come did come, often.
	for _, kind := range kinds() {
		for _, e := range []api.Errno{api.OK, api.ErrNoData} {
			if tally[[2]int{kind, int(e)}] < 100 {
				t.Error(kind, e, tally)
			}
		}
	}
	for _, x := range [][2]int{{Quantile, int(api.ErrArg)}, {Below, int(api.ErrArg)}, {Rise, int(api.ErrKind)}, {Rise, int(api.ErrOver)}, {-1, int(api.ErrArg)}, {6, int(api.ErrArg)}} {
		if tally[x] < 10 {
			t.Error(x, tally)
		}
	}
}

// cells are a counter's buckets of Pos, by their indices.
type cells map[int]uint64

func (c cells) hist(sum int64) api.Hist {
	var pairs []int
	for _, i := range slices.Sorted(maps.Keys(c)) {
		if c[i] > 0 {
			pairs = append(pairs, i, int(c[i]))
		}
	}
	return counter(sum, pairs...)
}

// W3: a rise is what came, bucket by bucket, since the first sample of the window.
func TestRisesAreWhatCame(t *testing.T) {
	r := rand.New(rand.NewPCG(19, 2))
	type step struct {
		came cells
		sum  int64
	}
	for range 3000 {
		now, sum := cells{}, int64(0)
		var l []api.Sample
		var steps []step
		for i := range 2 + r.IntN(8) {
			came := step{cells{}, 0}
			// What begins anew has nothing in the bucket 5, which otherwise grows: so one bucket at least has less.
			if now[5] > 0 && r.IntN(4) == 0 {
				now, sum = cells{}, 0
			}
			for range r.IntN(4) {
				index, n := r.IntN(5), 1+r.Int64N(9)
				came.came[index] += uint64(n)
				came.sum += n * int64(index)
			}
			if len(now) > 0 {
				came.came[5]++
			}
			for index, n := range came.came {
				now[index] += n
			}
			sum += came.sum
			l, steps = append(l, at(int64(10*i), now.hist(sum))), append(steps, came)
		}
		from, to := r.IntN(len(l)), r.IntN(len(l))
		want, wantSum := cells{}, int64(0)
		for i := from + 1; i <= to; i++ {
			for index, n := range steps[i].came {
				want[index] += n
			}
			wantSum += steps[i].sum
		}
		a := Ask{Kind: Rise, Since: int64(10*from) - 1 - r.Int64N(9), At: int64(10*to) + r.Int64N(10)}
		if to <= from {
			checkDo(t, a, l, Answer{}, api.ErrNoData)
		} else {
			checkDo(t, a, l, Answer{H: want.hist(wantSum)}, api.OK)
		}
	}
}

// P19.2

// drawRange is a question and what else a range that may be is asked with.
func drawRange(r *rand.Rand) (a Ask, to, step int64) {
	a = drawAsk(r)
	a.At = r.Int64N(40)
	a.Since = a.At - r.Int64N(50)
	step = 1 + r.Int64N(9)
	return a, a.At + r.Int64N(40) - 3, step
}

func TestRangeDrawn(t *testing.T) {
	r := rand.New(rand.NewPCG(19, 3))
	for range 4000 {
		l := drawSamples(r, r.Int64N(3), 12)
		a, to, step := drawRange(r)
		checkRange(t, a, l, to, step, secondRange(a, l, to, step), api.OK)
	}
}

// A range is answered as two that meet are.
func TestRangesThatMeet(t *testing.T) {
	r := rand.New(rand.NewPCG(19, 4))
	for range 2000 {
		l := drawSamples(r, r.Int64N(3), 12)
		a, to, step := drawRange(r)
		all, e := Range(a, l, to, step)
		for cut := range len(all) + 1 {
			far := int64(cut) * step
			b := a
			b.Since, b.At = a.Since+far, a.At+far
			first, wrong := Range(a, l, b.At-1, step)
			if cut > 0 && r.IntN(2) == 0 {
				first, wrong = Range(a, l, b.At-step, step)
			}
			other, wrongToo := Range(b, l, to, step)
			same(t, fmt.Sprintf("%+v, up to %d by %d in two at %d", a, to, step, b.At), append(first, other...), all, max(wrong, wrongToo), e)
			if len(first) != cut {
				t.Errorf("%+v has %d points up to %d by %d; want %d", a, len(first), b.At, step, cut)
			}
		}
	}
}

// P19.3

// spoiler is a histogram that would change most answers.
func spoiler(r *rand.Rand) api.Hist {
	h := drawHist(r)
	h.Kind, h.Sum = r.IntN(2), r.Int64()
	return h
}

// Samples ahead of the window, and behind it, change no answer.
func TestOutsideDrawn(t *testing.T) {
	r := rand.New(rand.NewPCG(19, 5))
	for range 8000 {
		l, a := drawSamples(r, r.Int64N(3), 9), drawAsk(r)
		in := filtered(l, a.Since, a.At)
		want, wantE := second(a, in)
		h, wrong := Of(a, in)
		var more []api.Sample
		for _, s := range l {
			if len(filtered([]api.Sample{s}, a.Since, a.At)) == 0 {
				s.H = spoiler(r)
			}
			more = append(more, s)
		}
		if r.IntN(2) == 0 && len(l) > 0 && l[0].T > 0 && a.Since >= 0 {
			more = append([]api.Sample{at(0, spoiler(r))}, more...)
		}
		if r.IntN(2) == 0 && a.At < end {
			more = append(more, at(end-1, spoiler(r)), at(end, spoiler(r)))
		}
		checkOf(t, a, more, h, wrong)
		checkDo(t, a, more, want, wantE)
		checkDo(t, a, in, want, wantE)
		checkWindow(t, more, a.Since, a.At, in...)
		checkDo(t, a, Window(more, a.Since, a.At), want, wantE)
	}
}

// Of a range what lies in none of its windows changes nothing.
func TestOutsideARange(t *testing.T) {
	r := rand.New(rand.NewPCG(19, 6))
	for range 3000 {
		l := drawSamples(r, r.Int64N(3), 12)
		a, to, step := drawRange(r)
		want := secondRange(a, l, to, step)
		var in, other []api.Sample
		for _, s := range l {
			if !slices.ContainsFunc(want, func(p Point) bool { return s.T <= p.At && s.T > p.At-(a.At-a.Since) }) {
				s.H = spoiler(r)
			} else {
				in = append(in, s)
			}
			other = append(other, s)
		}
		checkRange(t, a, in, to, step, want, api.OK)
		checkRange(t, a, other, to, step, want, api.OK)
	}
}

// key is a series that is stored.
const key = `{a="x"}`

// pieced are samples, stored as pieces and put together again: as chunks, and as blocks of each level.
func pieced(t *testing.T, l []api.Sample) [][]api.Sample {
	t.Helper()
	var chunked []api.Sample
	for _, piece := range chunk.Cut(l) {
		b, e := chunk.Encode(piece)
		again, wrong := chunk.Decode(b)
		if e != api.OK || wrong != api.OK {
			t.Fatal(e, wrong)
		}
		chunked = append(chunked, again...)
	}
	out := [][]api.Sample{chunked}
	labels, e := label.Parse(key)
	if e != api.OK {
		t.Fatal(e)
	}
	for level := range api.MaxLevel + 1 {
		var blocks []block.Block
		for _, b := range block.Make(level, []block.Row{{Key: label.Key(labels), Samples: l}}) {
			bytes, e := block.Encode(b)
			again, wrong := block.Decode(bytes)
			if e != api.OK || wrong != api.OK {
				t.Fatal(e, wrong)
			}
			blocks = append(blocks, again)
		}
		out = append(out, block.Join(nil, blocks...)[0].Samples)
	}
	return out
}

func TestPieces(t *testing.T) {
	r := rand.New(rand.NewPCG(19, 7))
	for range 100 {
		l := drawSamples(r, r.Int64N(100), 40)
		if len(l) == 0 {
			continue
		}
		for _, again := range pieced(t, l) {
			for range 10 {
				a := drawAsk(r)
				a.Since, a.At = r.Int64N(300)-100, r.Int64N(300)-50
				want, e := second(a, l)
				checkDo(t, a, again, want, e)
			}
		}
	}
}

// stored is a store with samples of one series.
func stored(t *testing.T, l []api.Sample) *store.Store {
	t.Helper()
	d, e := disk.New(api.MaxDisk)
	if e != api.OK {
		t.Fatal(e)
	}
	s, _, e := store.Open(d)
	if e != api.OK {
		t.Fatal(e)
	}
	labels, _ := label.Parse(key)
	for _, x := range l {
		if e := s.Append(store.Item{Labels: labels, T: x.T, H: x.H}); e != api.OK {
			t.Fatal(e)
		}
	}
	return s
}

// selected are the samples that a store has from one time to another one.
func selected(s *store.Store, from, to int64) []api.Sample {
	all, _ := match.New()
	for _, series := range s.Select(all, from, to) {
		return series.Samples
	}
	return nil
}

// However a store has moved its samples, and whether it is asked for all or for the window alone, each answer is the same.
func TestStored(t *testing.T) {
	r := rand.New(rand.NewPCG(19, 8))
	for range 20 {
		l := drawSamples(r, r.Int64N(100), 40)
		s := stored(t, l)
		for range 8 {
			for range 20 {
				a := drawAsk(r)
				a.At = r.Int64N(300)
				a.Since = r.Int64N(a.At+2) - 1
				want, e := second(a, l)
				checkDo(t, a, selected(s, 0, end), want, e)
				checkDo(t, a, selected(s, a.Since+1, a.At), want, e)
			}
			if r.IntN(2) == 0 {
				s.Cut(r.Int64N(300))
			} else {
				s.Compact()
			}
		}
	}
}

// R3

// spoil changes all of a list, and the room behind its end.
func spoil[T any](l []T) { clear(l[:cap(l)]) }

func spoilHist(h api.Hist) {
	spoil(h.Pos)
	spoil(h.Neg)
}

func spoilSamples(l []api.Sample) {
	for _, s := range l[:cap(l)] {
		spoilHist(s.H)
	}
	spoil(l)
}

// made are all answers that may have memory in common with what was handed in, each with all that it tells.
func made(l []api.Sample) (answers []func() string, spoilers []func()) {
	put := func(x any, spoil func()) {
		answers = append(answers, func() string { return text(x) })
		spoilers = append(spoilers, spoil)
	}
	window := Window(l, 9, 45)
	put(window, func() { spoilSamples(window) })
	none := Window(l, 9, 9)
	put(none, func() { spoilSamples(none) })
	for _, a := range asks(9, 45) {
		h, _ := Of(a, l)
		put(h, func() { spoilHist(h) })
		done, _ := Do(a, l)
		put(done, func() { spoilHist(done.H) })
		finished, _ := Finish(a, l[1].H)
		put(finished, func() { spoilHist(finished.H) })
		points, _ := Range(a, l, 55, 1)
		put(points, func() {
			for _, p := range points {
				spoilHist(p.A.H)
			}
			spoil(points)
		})
	}
	return answers, spoilers
}

// bothSides is a counter with both sides, and room behind all ends.
func bothSides() []api.Sample {
	l := rising()
	for i := range l {
		l[i].H.Neg = slices.Clone(l[i].H.Pos)
		l[i].H = of(l[i].H)
	}
	return roomy(l)
}

func TestOwnMemory(t *testing.T) {
	l := bothSides()
	was := whole(l)
	answers, spoilers := made(l)
	var texts []string
	for _, a := range answers {
		texts = append(texts, a())
	}
	// What is done to one answer changes none of the others, nor what was handed in.
	for i, spoil := range spoilers {
		spoil()
		if now := whole(l); now != was {
			t.Fatalf("by the answer %d %s became %s", i, was, now)
		}
		for j, a := range answers {
			if now := a(); j > i && now != texts[j] {
				t.Fatalf("by the answer %d the answer %d, %s, became %s", i, j, texts[j], now)
			}
		}
	}
	// What is done to what was handed in changes no answer.
	answers, _ = made(l)
	spoilSamples(l)
	for i, a := range answers {
		if now := a(); now != texts[i] {
			t.Errorf("the answer %d, %s, became %s", i, texts[i], now)
		}
	}
}

// No two points of a range, and no two samples of a window, have memory in common, with the room behind the ends.
func TestListsOfTheirOwn(t *testing.T) {
	l := []api.Sample{at(3, of(api.Hist{ZeroAt: api.NoZero, Pos: l(1, 2), Neg: l(3, 4)}))}
	// One list for all of what is handed in.
	l = append(l, at(4, l[0].H))
	want := text(l[1])
	window := Window(l, 0, 9)
	spoilHist(window[0].H)
	if text(window[1]) != want {
		t.Error(window)
	}
	points, e := Range(Ask{Kind: Raw, Since: 0, At: 4}, l, 6, 1)
	if e != api.OK {
		t.Fatal(e)
	}
	wantPoint := text(points[1].A)
	for _, i := range []int{0, 2} {
		spoilHist(points[i].A.H)
	}
	if text(points[1].A) != wantPoint || text(l[1]) != want {
		t.Error(points, l)
	}
}

// R1, R2

// whateverHist is anything that may be handed in as a histogram.
func whateverHist(r *rand.Rand) api.Hist {
	number := func() int {
		return []int{math.MinInt, -1 << 20, -5, -1, 0, 1, 2, 3, 9, 1 << 18, 1 << 19, math.MaxInt}[r.IntN(12)]
	}
	side := func() []api.Bucket {
		var out []api.Bucket
		for range r.IntN(4) {
			out = append(out, api.Bucket{Index: number(), Count: uint64(number())})
		}
		return out
	}
	return api.Hist{Kind: number(), Schema: number(), ZeroAt: number(), Zero: uint64(number()), Count: uint64(number()), Sum: int64(number()), Pos: side(), Neg: side()}
}

// whateverTime is any time.
func whateverTime(r *rand.Rand) int64 { return edges()[r.IntN(len(edges()))] }

// Whatever is handed in, all calls end, none panics, beside an error there is nothing, and what was handed in is as it was.
func TestWhatever(t *testing.T) {
	r := rand.New(rand.NewPCG(19, 9))
	for range 20000 {
		var l []api.Sample
		for range r.IntN(6) {
			h := whateverHist(r)
			if r.IntN(2) == 0 {
				h = drawHist(r)
			}
			l = append(l, at(whateverTime(r), h))
		}
		a := Ask{Kind: r.IntN(8) - 1, Part: r.Uint64() >> r.IntN(65), Of: r.Uint64() >> r.IntN(65), Since: whateverTime(r), At: whateverTime(r)}
		a.Place = rank.Place{Side: r.IntN(5) - 2, Units: whateverHist(r).ZeroAt}
		kept(t, "all calls", l, func(l []api.Sample) {
			Window(l, a.Since, a.At)
			h, e := Of(a, l)
			nothing(t, "Of", h, api.Hist{}, e)
			answer, e := Finish(a, whateverHist(r))
			nothing(t, "Finish", answer, Answer{}, e)
			answer, e = Do(a, l)
			nothing(t, "Do", answer, Answer{}, e)
			points, e := Range(a, l, whateverTime(r), max(whateverTime(r), r.Int64N(2)))
			nothing(t, "Range", points, []Point{}, e)
			for _, p := range points {
				nothing(t, "Range", p.A, Answer{}, p.Err)
			}
			if len(points) > MaxPoints {
				t.Error(len(points))
			}
			Same(answer, Answer{H: whateverHist(r)})
		})
	}
}

// nothing asserts that beside an error there is nothing.
func nothing(t *testing.T, what string, got, none any, e api.Errno) {
	t.Helper()
	if e != api.OK && text(got) != text(none) {
		t.Errorf("%s is %s, %d", what, text(got), e)
	}
}
