package plan

import (
	"math"
	"math/rand/v2"
	"pluvial/block"
	"slices"
	"strconv"
	"testing"
)

// The tests hold the package against steps told one by one, and against the chapter's sentences reckoned time by time, or block by block with every other one.

const end = 1 << 40

// widths are those of the levels.
var widths = []int64{64, 256, 1024, 4096, 16384}

// at is a block of a level by its number: the step of the grid that begins at a time.
func at(seq, level int, low int64) Item {
	return Item{Seq: seq, Meta: block.Meta{Low: low, High: low + widths[level], Level: level}}
}

// roomy is a list of its own that is as long as the room of another one.
func roomy[T any](l []T) []T { return slices.Clone(l[:cap(l)]) }

// withRoom has room behind its end that isn't to be touched.
func withRoom[T any](l ...T) []T { return append(slices.Clone(l), l...)[: len(l) : 2*len(l)] }

// spoil makes a list, with the room behind its end, one of zeros.
func spoil[T any](l []T) { clear(l[:cap(l)]) }

// What the chapter says, word by word.

// modelWithin looks at each block's first and last time.
func modelWithin(l []Item, level int, low int64) []int {
	var seqs []int
	for _, x := range l {
		if x.Low >= low && x.High-1 < low+widths[level] {
			seqs = append(seqs, x.Seq)
		}
	}
	slices.Sort(seqs)
	return seqs
}

// modelNext looks at each block of each level, and at all others for it.
func modelNext(l []Item) (Step, bool) {
	l = slices.Clone(l)
	slices.SortFunc(l, func(a, b Item) int {
		if a.Low != b.Low {
			return int(a.Low - b.Low)
		}
		return a.Seq - b.Seq
	})
	for level := range widths {
		for _, x := range l {
			if x.Level > level {
				continue
			}
			if seqs := modelWithin(l, level, x.Low/widths[level]*widths[level]); len(seqs) > 1 {
				return Step{Seqs: seqs, Level: level}, true
			}
		}
	}
	return Step{}, false
}

// modelApart holds each block against each other one.
func modelApart(l []Item) bool {
	for i, a := range l {
		for _, b := range l[:i] {
			if max(a.Low, b.Low) < min(a.High, b.High) {
				return false
			}
		}
	}
	return true
}

// modelDo makes the new block of the least time that the step's blocks have.
func modelDo(l []Item, s Step, seq int) []Item {
	var left []Item
	low := int64(-1)
	for _, x := range l {
		if !slices.Contains(s.Seqs, x.Seq) {
			left = append(left, x)
		} else if low < 0 || x.Low < low {
			low = x.Low
		}
	}
	if low < 0 {
		return left
	}
	return append(left, at(seq, s.Level, low/widths[s.Level]*widths[s.Level]))
}

// What is asserted.

func sameStep(a, b Step) bool { return a.Level == b.Level && slices.Equal(a.Seqs, b.Seqs) }

// checkNext asserts the next step of blocks, also of these in other orders.
func checkNext(t *testing.T, what string, l []Item, want Step, is bool) {
	t.Helper()
	r := rand.New(rand.NewPCG(17, uint64(len(l))))
	for range 4 {
		was := roomy(l)
		if got, ok := Next(l); !sameStep(got, want) || ok != is {
			t.Errorf("%s: Next(%v) is %v, %t; want %v", what, l, got, ok, want)
		}
		if got := Apart(l); got != modelApart(l) {
			t.Errorf("%s: Apart(%v) is %t", what, l, got)
		}
		if !slices.Equal(roomy(l), was) {
			t.Errorf("%s: the blocks are changed", what)
		}
		l = slices.Clone(l)
		r.Shuffle(len(l), func(i, k int) { l[i], l[k] = l[k], l[i] })
	}
}

// checkStep asserts a next step that there is; checkNone that there is none.
func checkStep(t *testing.T, what string, l []Item, level int, seqs ...int) {
	t.Helper()
	checkNext(t, what, l, Step{Seqs: seqs, Level: level}, true)
}

func checkNone(t *testing.T, what string, l ...Item) {
	t.Helper()
	checkNext(t, what, l, Step{}, false)
}

// checkDo asserts what a step makes of blocks, by the number 99.
func checkDo(t *testing.T, what string, l []Item, level int, seqs []int, want ...Item) {
	t.Helper()
	was, its := roomy(l), roomy(seqs)
	if got := Do(l, Step{Seqs: seqs, Level: level}, 99); !slices.Equal(got, want) {
		t.Errorf("%s: Do(%v, %v of %d) is %v; want %v", what, l, seqs, level, got, want)
	}
	if !slices.Equal(roomy(l), was) || !slices.Equal(roomy(seqs), its) {
		t.Errorf("%s: what was handed in is changed", what)
	}
}

// P17.1

func TestWithin(t *testing.T) {
	// Of each level one at its own beginning, and one a step behind.
	l := []Item{at(9, 0, 0), at(8, 0, 64), at(7, 1, 0), at(6, 1, 256), at(5, 2, 0), at(4, 2, 1024), at(3, 3, 4096), at(2, 4, 16384), at(1, 0, end), at(0, 4, end)}
	was := roomy(l)
	for _, x := range []struct {
		level int
		low   int64
		want  []int
	}{
		{0, 0, []int{9}}, {0, 64, []int{8}}, {0, 128, nil}, {0, 256, nil}, {0, end, []int{1}}, {0, end + 64, nil},
		{1, 0, []int{7, 8, 9}}, {1, 256, []int{6}}, {1, 512, nil}, {1, end, []int{1}}, {2, 0, []int{5, 6, 7, 8, 9}}, {2, 1024, []int{4}},
		{3, 0, []int{4, 5, 6, 7, 8, 9}}, {3, 4096, []int{3}}, {4, 0, []int{3, 4, 5, 6, 7, 8, 9}}, {4, 16384, []int{2}}, {4, end, []int{0, 1}},
		// From any time on, also where no step begins.
		{0, 1, nil}, {0, -1, nil}, {0, 63, nil}, {1, 1, []int{8}}, {1, 64, []int{8}}, {1, 65, []int{}}, {1, -1, []int{8, 9}}, {1, -128, []int{8, 9}}, {1, -129, []int{9}}, {1, -192, []int{9}}, {1, -193, nil},
		{1, 255, nil}, {1, 257, nil}, {4, 1, []int{3, 4, 6, 8}}, {4, 64, []int{3, 4, 6, 8}}, {4, 65, []int{3, 4, 6}}, {4, end - 16320, []int{1}}, {4, end - 16321, nil}, {4, end + 1, nil}, {4, 16385, nil},
		// A number that is no level counts as the nearest one.
		{-1, 0, []int{9}}, {math.MinInt, 64, []int{8}}, {5, 16384, []int{2}}, {math.MaxInt, end, []int{0, 1}},
		// Nothing is reckoned beyond the ends.
		{4, math.MaxInt64, nil}, {0, math.MaxInt64, nil}, {4, math.MaxInt64 - 16384, nil}, {4, math.MinInt64, nil}, {0, math.MinInt64, nil}, {0, math.MinInt64 + 64, nil},
	} {
		if got := Within(l, x.level, x.low); !slices.Equal(got, x.want) {
			t.Errorf("Within(%d, %d) is %v; want %v", x.level, x.low, got, x.want)
		}
	}
	if !slices.Equal(roomy(l), was) {
		t.Error("the blocks are changed")
	}
	if got := Within(nil, 0, 0); len(got) != 0 {
		t.Errorf("Within of no block is %v", got)
	}
	// Numbers rise as numbers, whatever they are.
	l = []Item{at(65536, 0, 0), at(-3, 0, 0), at(10, 0, 0), at(9, 0, 0), at(0, 0, 0)}
	if got := Within(l, 0, 0); !slices.Equal(got, []int{-3, 0, 9, 10, 65536}) {
		t.Errorf("Within is %v", got)
	}
}

func TestBelow(t *testing.T) {
	l := withRoom(at(7, 0, 64), at(5, 0, 0), at(3, 1, 0), at(6, 4, 0), at(1, 0, 192), at(2, 0, end), at(4, 4, end))
	was := roomy(l)
	for _, x := range []struct {
		mark int64
		want []int
	}{
		{0, nil}, {1, nil}, {63, nil}, {64, []int{5}}, {65, []int{5}}, {127, []int{5}}, {128, []int{5, 7}}, {255, []int{5, 7}}, {256, []int{1, 3, 5, 7}}, {257, []int{1, 3, 5, 7}},
		{16383, []int{1, 3, 5, 7}}, {16384, []int{1, 3, 5, 6, 7}}, {end, []int{1, 3, 5, 6, 7}}, {end + 63, []int{1, 3, 5, 6, 7}}, {end + 64, []int{1, 2, 3, 5, 6, 7}},
		{math.MaxInt64, []int{1, 2, 3, 4, 5, 6, 7}}, {-1, nil}, {math.MinInt64, nil},
	} {
		if got := Below(l, x.mark); !slices.Equal(got, x.want) {
			t.Errorf("Below(%d) is %v; want %v", x.mark, got, x.want)
		}
	}
	if !slices.Equal(roomy(l), was) {
		t.Error("the blocks are changed")
	}
	if got := Below(nil, end); len(got) != 0 {
		t.Errorf("Below of no block is %v", got)
	}
}

func TestNext(t *testing.T) {
	checkNone(t, "no block")
	for level, width := range widths {
		for _, low := range []int64{0, width, 16384, end - 16384, end} {
			checkNone(t, "one block", at(3, level, low))
			checkStep(t, "two of one step", []Item{at(3, level, low), at(1, level, low)}, level, 1, 3)
		}
		checkNone(t, "two that are alone in all grids", at(3, level, 0), at(1, level, 16384))
		checkNone(t, "on both sides of a beginning", at(3, level, 16384-width), at(1, level, 16384))
		checkNone(t, "at the ends", at(3, level, 0), at(1, level, end))
		for other := range level {
			for _, low := range []int64{0, width / 2, width - widths[other]} {
				checkStep(t, "one that lies in the other one", []Item{at(1, level, width), at(2, other, width+low/widths[other]*widths[other])}, level, 1, 2)
			}
			behind, want := at(2, other, 2*width), level+1
			if level == 4 {
				checkNone(t, "one just behind the other one", at(1, level, width), behind)
				continue
			}
			checkStep(t, "one just behind the other one", []Item{at(1, level, width), behind}, want, 1, 2)
		}
	}
	// The document's example.
	checkStep(t, "0 and 64", []Item{at(1, 0, 0), at(2, 0, 64)}, 1, 1, 2)
	checkNone(t, "what is left", at(3, 1, 0))

	checkStep(t, "of level 2", []Item{at(1, 0, 192), at(2, 0, 256)}, 2, 1, 2)
	checkStep(t, "of level 3", []Item{at(1, 0, 1023/64*64), at(2, 0, 1024)}, 3, 1, 2)
	checkStep(t, "of level 4", []Item{at(1, 0, 4096-64), at(2, 0, 4096)}, 4, 1, 2)
	checkStep(t, "of level 4, at the ends of its step", []Item{at(1, 0, 0), at(2, 0, 16384-64)}, 4, 1, 2)

	// The lowest level first, wherever it is.
	checkStep(t, "a lower level behind", []Item{at(1, 0, 0), at(2, 0, 64), at(3, 0, 5120), at(4, 0, 5120)}, 0, 3, 4)
	checkStep(t, "a lower level far behind", []Item{at(1, 2, 0), at(2, 2, 0), at(3, 1, 1<<30), at(4, 1, 1<<30)}, 1, 3, 4)
	// Then the earliest step, whatever its numbers.
	checkStep(t, "two steps of a level", []Item{at(1, 0, 128), at(2, 0, 128), at(8, 0, 0), at(9, 0, 0)}, 0, 8, 9)
	checkStep(t, "two steps of level 1", []Item{at(4, 0, 256), at(3, 0, 320), at(9, 0, 64), at(8, 0, 128)}, 1, 8, 9)
	// All blocks that lie in it, also of unlike levels, and of no other step.
	checkStep(t, "all of a step", []Item{at(5, 0, 0), at(4, 0, 64), at(3, 0, 128), at(2, 0, 192), at(1, 0, 256)}, 1, 2, 3, 4, 5)
	checkStep(t, "all but one", []Item{at(5, 0, 0), at(3, 0, 128), at(2, 0, 192)}, 1, 2, 3, 5)
	checkStep(t, "full and more", []Item{at(5, 0, 0), at(4, 0, 64), at(3, 0, 128), at(2, 0, 192), at(6, 1, 0)}, 1, 2, 3, 4, 5, 6)
	checkStep(t, "a lower one twice", []Item{at(5, 0, 0), at(4, 0, 64), at(3, 0, 64), at(2, 1, 0)}, 0, 3, 4)
	checkStep(t, "one of each level", []Item{at(1, 0, 0), at(2, 1, 0), at(3, 2, 0), at(4, 3, 0), at(5, 4, 0)}, 1, 1, 2)
	checkStep(t, "one of each level, the next one", []Item{at(9, 1, 0), at(3, 2, 0), at(4, 3, 0), at(5, 4, 0)}, 2, 3, 9)
	// Blocks whose level is greater don't begin a step, though they stand ahead.
	checkStep(t, "a greater one ahead", []Item{at(1, 1, 0), at(2, 0, 256), at(3, 0, 320), at(4, 4, 0)}, 1, 2, 3)
	checkStep(t, "a greater one of the same Low", []Item{at(1, 2, 1024), at(2, 0, 1024), at(3, 0, 1088), at(4, 1, 2048), at(5, 1, 2304)}, 1, 2, 3)
	checkStep(t, "greater ones between", []Item{at(1, 0, 0), at(2, 4, 0), at(3, 3, 0), at(4, 1, 0), at(5, 2, 0)}, 1, 1, 4)
	checkStep(t, "a greater one begins between the two", []Item{at(1, 0, 0), at(2, 0, 4096), at(3, 3, 4096)}, 3, 2, 3)
	checkStep(t, "of one Low, by their numbers", []Item{at(9, 0, 0), at(1, 1, 0), at(5, 0, 64)}, 1, 1, 5, 9)
}

func TestApart(t *testing.T) {
	for _, x := range []struct {
		what string
		l    []Item
		want bool
	}{
		{"none", nil, true}, {"one", []Item{at(1, 4, 0)}, true}, {"one behind the other", []Item{at(1, 0, 0), at(2, 0, 64)}, true}, {"one ahead of the other", []Item{at(1, 0, 64), at(2, 0, 0)}, true},
		{"one step twice", []Item{at(1, 0, 64), at(2, 0, 64)}, false}, {"of two levels, at one Low", []Item{at(1, 0, 0), at(2, 1, 0)}, false}, {"at the other one's end", []Item{at(1, 0, 192), at(2, 1, 0)}, false},
		{"just behind it", []Item{at(1, 0, 256), at(2, 1, 0)}, true}, {"just ahead of it", []Item{at(1, 0, 192), at(2, 1, 256)}, true}, {"in its midst", []Item{at(1, 4, 0), at(2, 0, 8192)}, false},
		{"the first and the last one of many", []Item{at(1, 4, 0), at(2, 0, 16384), at(3, 0, 16448), at(4, 0, 16320)}, false},
		{"two of the last ones", []Item{at(1, 0, 0), at(2, 0, 64), at(3, 0, 128), at(4, 0, 128)}, false},
		{"a wide one, and others behind it", []Item{at(1, 2, 0), at(2, 0, 1024), at(3, 1, 2048)}, true},
		{"far apart", []Item{at(1, 0, 0), at(2, 4, end), at(3, 2, 1<<30)}, true},
		{"at the end", []Item{at(1, 0, end), at(2, 4, end)}, false},
	} {
		was := roomy(x.l)
		if got := Apart(x.l); got != x.want || modelApart(x.l) != x.want {
			t.Errorf("%s: Apart is %t", x.what, got)
		}
		if !slices.Equal(roomy(x.l), was) {
			t.Errorf("%s: the blocks are changed", x.what)
		}
	}
}

func TestDo(t *testing.T) {
	a, b, c, d := at(1, 0, 0), at(2, 0, 64), at(3, 1, 256), at(4, 0, 448)
	all := withRoom(d, b, c, a)
	checkDo(t, "no block", nil, 0, nil)
	checkDo(t, "no block, by numbers", nil, 1, []int{1, 2})
	checkDo(t, "a step of no block", all, 0, nil, d, b, c, a)
	checkDo(t, "a step of an empty list", all, 4, []int{}, d, b, c, a)
	checkDo(t, "numbers that no block has", all, 4, []int{0, 5, 99, -1, math.MaxInt}, d, b, c, a)
	checkDo(t, "two of level 1", all, 1, withRoom(1, 2), d, c, at(99, 1, 0))
	checkDo(t, "two of level 1, in another order", all, 1, []int{2, 1}, d, c, at(99, 1, 0))
	checkDo(t, "the other two", all, 1, []int{3, 4}, b, a, at(99, 1, 256))
	checkDo(t, "all", all, 2, []int{1, 2, 3, 4}, at(99, 2, 0))
	checkDo(t, "all, and numbers that no block has", all, 2, []int{7, 4, 3, 2, 1, 0}, at(99, 2, 0))
	checkDo(t, "a number twice", all, 1, []int{1, 2, 2, 1}, d, c, at(99, 1, 0))
	checkDo(t, "one alone", all, 0, []int{4}, b, c, a, at(99, 0, 448))
	checkDo(t, "one alone, of a greater level", all, 1, []int{4}, b, c, a, at(99, 1, 256))
	checkDo(t, "one alone, of the greatest level", all, 4, []int{4}, b, c, a, at(99, 4, 0))
	checkDo(t, "one and a number that no block has", all, 3, []int{5, 2}, d, c, a, at(99, 3, 0))
	// Where the earliest one begins says where the new one does, wherever it stands.
	checkDo(t, "far apart", []Item{at(1, 0, 5120), at(2, 0, 1088), at(3, 0, 2048)}, 2, []int{1, 2, 3}, at(99, 2, 1024))
	checkDo(t, "far apart, the earliest one first", []Item{at(2, 0, 1088), at(1, 0, 5120), at(3, 0, 2048)}, 2, []int{1, 2, 3}, at(99, 2, 1024))
	checkDo(t, "far apart, the earliest one isn't the step's", []Item{at(2, 0, 1088), at(1, 0, 5120), at(3, 0, 2048)}, 2, []int{1, 3}, at(2, 0, 1088), at(99, 2, 2048))
	for level, width := range widths {
		for _, low := range []int64{0, width, 16384, end - width, end} {
			checkDo(t, "of its own level", []Item{at(1, level, low), at(2, level, low)}, level, []int{1, 2}, at(99, level, low))
		}
		checkDo(t, "at the end", []Item{at(1, 0, end-64), at(2, 0, end)}, level, []int{2}, at(1, 0, end-64), at(99, level, end))
		checkDo(t, "just ahead of the end", []Item{at(1, 0, end-64), at(2, 0, end)}, level, []int{1}, at(2, 0, end), at(99, level, end-width))
		checkDo(t, "the last ones of a step", []Item{at(1, 0, 2*16384-64), at(2, 0, 2*16384)}, level, []int{1, 2}, at(99, level, 2*16384-width))
	}
}

// P17.2

// finish goes on step by step to the end, against the model, and says how many steps there were.
func finish(t *testing.T, l []Item) int {
	t.Helper()
	seq := 0
	for _, x := range l {
		seq = max(seq, x.Seq+1)
	}
	was, steps := slices.Clone(l), 0
	for {
		s, ok := Next(l)
		want, is := modelNext(l)
		if !sameStep(s, want) || ok != is {
			t.Fatalf("Next(%v) is %v, %t; want %v", l, s, ok, want)
		}
		if got := Apart(l); got != modelApart(l) || !ok && !got {
			t.Fatalf("Apart(%v) is %t", l, got)
		}
		if !ok {
			return steps
		}
		next := Do(l, s, seq)
		if want := modelDo(l, s, seq); !slices.Equal(next, want) || len(next) >= len(l) {
			t.Fatalf("Do(%v, %v) is %v; want %v", l, s, next, want)
		}
		steps++
		// What is made has all times of what it is made of, and may be.
		made := next[len(next)-1]
		if !block.Right(made.Meta) || !slices.Equal(Within(l, s.Level, made.Low), s.Seqs) {
			t.Fatalf("of %v %v makes %v", l, s, made)
		}
		if steps >= len(was) {
			t.Fatalf("%v takes %d steps", was, steps)
		}
		l = next
		seq++
	}
}

// grid are all blocks of some levels below a time.
func grid(levels int, until int64) []Item {
	var l []Item
	for level := range levels {
		for low := int64(0); low < until; low += widths[level] {
			l = append(l, at(len(l), level, low))
		}
	}
	return l
}

// All sets of blocks of three levels.
func TestAllSets(t *testing.T) {
	all := grid(3, 512)
	most := 0
	for n := range 1 << len(all) {
		var l []Item
		for i, x := range all {
			if n>>i&1 == 1 {
				l = append(l, x)
			}
		}
		most = max(most, finish(t, l))
		// The same ones from the end, by numbers the other way round.
		slices.Reverse(l)
		for i := range l {
			l[i].Seq = len(all) - l[i].Seq
		}
		finish(t, l)
	}
	if most != 3 {
		t.Errorf("at most %d steps", most)
	}
}

// All lists of four blocks, also of one step, at two places.
func TestAllFours(t *testing.T) {
	some := []Item{at(0, 0, 0), at(0, 0, 64), at(0, 0, 256), at(0, 1, 0), at(0, 1, 256), at(0, 2, 0), at(0, 0, 1024), at(0, 2, 1024), at(0, 3, 0), at(0, 4, 0)}
	for n := range 10000 {
		l := []Item{some[n%10], some[n/10%10], some[n/100%10], some[n/1000]}
		for i, seq := range []int{5, 2, 9, 4} {
			l[i].Seq = seq
		}
		finish(t, l)
	}
}

// draw are so many blocks in any order, within so many times.
func draw(r *rand.Rand, long int, within int64) []Item {
	var l []Item
	for _, seq := range r.Perm(65537)[:long] {
		level := r.IntN(5)
		l = append(l, at(seq, level, r.Int64N(within)/widths[level]*widths[level]))
	}
	return l
}

func TestDrawn(t *testing.T) {
	r := rand.New(rand.NewPCG(17, 1))
	for range 400 {
		l := draw(r, r.IntN(30), 1<<(7+r.IntN(34)))
		finish(t, l)
		for range 10 {
			level, low, mark := r.IntN(5), r.Int64N(1<<17)-1000, r.Int64N(1<<17)
			if got, want := Within(l, level, low), modelWithin(l, level, low); !slices.Equal(got, want) {
				t.Errorf("Within(%v, %d, %d) is %v; want %v", l, level, low, got, want)
			}
			var below []int
			for _, x := range l {
				if x.High <= mark {
					below = append(below, x.Seq)
				}
			}
			slices.Sort(below)
			if got := Below(l, mark); !slices.Equal(got, below) {
				t.Errorf("Below(%v, %d) is %v; want %v", l, mark, got, below)
			}
			// A step of any of them, whatever it is.
			var seqs []int
			for _, x := range l {
				if r.IntN(3) == 0 {
					seqs = append(seqs, x.Seq)
				}
			}
			s := Step{Seqs: seqs, Level: level}
			if got, want := Do(l, s, 70000), modelDo(l, s, 70000); !slices.Equal(got, want) {
				t.Errorf("Do(%v, %v) is %v; want %v", l, s, got, want)
			}
		}
	}
	finish(t, draw(r, 256, 1<<20))
	finish(t, draw(r, 256, 1<<40))
}

// Blocks that fill a step just, or all but one, of each level.
func TestFullSteps(t *testing.T) {
	for level := 1; level < 5; level++ {
		for fine := range level {
			var l []Item
			for low := widths[level]; low < 2*widths[level]; low += widths[fine] {
				l = append(l, at(len(l), fine, low))
			}
			checkSteps := func(what string, l []Item) {
				t.Helper()
				if finish(t, l) < 1 {
					t.Errorf("%s: level %d by %d: no step", what, level, fine)
				}
			}
			checkSteps("full", l)
			for i := range min(len(l), 5) {
				checkSteps("all but "+strconv.Itoa(i), slices.Delete(slices.Clone(l), i, i+1))
			}
			checkSteps("all but the last one", l[:len(l)-1])
			checkSteps("and the whole", append(slices.Clone(l), at(len(l), level, widths[level])))
		}
	}
}

// Very many blocks come to an end, too.
func TestVeryMany(t *testing.T) {
	r := rand.New(rand.NewPCG(17, 2))
	l := draw(r, 5000, 1<<24)
	steps := 0
	for s, ok := Next(l); ok; s, ok = Next(l) {
		l = Do(l, s, 70000+steps)
		steps++
	}
	if steps >= 5000 || !Apart(l) {
		t.Errorf("%d steps, %d blocks, apart: %t", steps, len(l), Apart(l))
	}
}

// The fields of an item are its block's.
func TestFields(t *testing.T) {
	x := at(7, 2, 1024)
	if x.Seq != 7 || x.Low != 1024 || x.High != 2048 || x.Level != 2 || x.Meta != (block.Meta{Low: 1024, High: 2048, Level: 2}) {
		t.Errorf("an item is %v", x)
	}
}

// Of what may not be nothing is told, but that it ends.
func TestAnything(t *testing.T) {
	wild := []int64{math.MinInt64, -64, -1, 0, 1, 64, end, math.MaxInt64 - 63, math.MaxInt64}
	var l []Item
	for i, low := range wild {
		for _, high := range wild {
			l = append(l, Item{Seq: i, Meta: block.Meta{Low: low, High: high, Level: i - 3}})
		}
	}
	Next(l)
	Apart(l)
	for level := -3; level < 9; level++ {
		for _, n := range wild {
			Within(l, level, n)
			Below(l, n)
		}
		Do(l, Step{Seqs: []int{0, 1, 2, 5}, Level: level}, level)
		Next(Do(l, Step{Seqs: []int{0}, Level: level}, level))
	}
}

// What is handed in isn't kept, and what is handed out isn't another one's.
func TestOwnMemory(t *testing.T) {
	l := withRoom(at(1, 0, 0), at(2, 0, 64), at(3, 1, 256))
	was := roomy(l)
	step, _ := Next(l)
	seqs := withRoom(step.Seqs...)
	for what, call := range map[string]func() []Item{
		"of some":  func() []Item { return Do(l, Step{Seqs: seqs, Level: 1}, 9) },
		"of none":  func() []Item { return Do(l, Step{Level: 1}, 9) },
		"of all":   func() []Item { return Do(l, Step{Seqs: []int{1, 2, 3}, Level: 2}, 9) },
		"of first": func() []Item { return Do(l, Step{Seqs: []int{3}, Level: 2}, 9) },
	} {
		got := call()
		again := slices.Clone(got)
		_ = append(got, at(7, 0, 0))
		spoil(got)
		if !slices.Equal(roomy(l), was) || !slices.Equal(call(), again) {
			t.Errorf("%s: what was handed in is changed with what was answered", what)
		}
		got = call()
		spoil(l)
		if !slices.Equal(got, again) {
			t.Errorf("%s: what was answered is changed with what was handed in", what)
		}
		copy(l[:cap(l)], was)
	}
	for what, call := range map[string]func() []int{
		"Within": func() []int { return Within(l, 1, 0) }, "Below": func() []int { return Below(l, 500) },
		"Next": func() []int { s, _ := Next(l); return s.Seqs },
	} {
		got := call()
		again := slices.Clone(got)
		_ = append(got, 7)
		spoil(l)
		if !slices.Equal(got, again) {
			t.Errorf("%s: what was answered is changed with what was handed in", what)
		}
		copy(l[:cap(l)], was)
		spoil(got)
		if !slices.Equal(roomy(l), was) || !slices.Equal(call(), again) {
			t.Errorf("%s: what was handed in is changed with what was answered", what)
		}
	}
	if !sameStep(step, Step{Seqs: []int{1, 2}, Level: 1}) {
		t.Errorf("the step became %v", step)
	}
}
