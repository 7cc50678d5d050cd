package store

import (
	"fmt"
	"math"
	"math/rand/v2"
	"pluvial/api"
	"pluvial/block"
	"pluvial/disk"
	"pluvial/entry"
	"pluvial/plan"
	"pluvial/tomb"
	"slices"
	"strconv"
	"strings"
	"testing"
)

const end = 1 << 40

// fresh is a store on a new disk, with its world.
func fresh(t *testing.T) (*Store, *disk.Disk, *world) {
	t.Helper()
	d := roomyDisk()
	return open(t, d), d, &world{}
}

// lost is what a disk has behind a loss of power that leaves what is sure alone.
func lost(d *disk.Disk) *disk.Disk { return d.Crash(nil, nil) }

// checkRefused looks whether a deed answers an error, and changes nothing.
func checkRefused(t *testing.T, what string, s *Store, d *disk.Disk, w *world, want api.Errno, do func(*Store) api.Errno) {
	t.Helper()
	was := diskText(d)
	if e := do(s); e != want {
		t.Errorf("%s answers %d, not %d", what, e, want)
	}
	if diskText(d) != was {
		t.Errorf("%s changes the disk", what)
	}
	checkStore(t, what, s, d, w)
}

// P18.1

func TestExample(t *testing.T) {
	s, d, w := fresh(t)
	does(t, s, d, w, add(at(`{a="x"}`, 5)...))
	checkStore(t, "opened again", open(t, d), d, w)
	got := open(t, d).Select(sel(`{a="x"}`), 5, 5)
	if want := []api.Series{{Labels: labels(`{a="x"}`), Samples: samplesAt(5)}}; fmt.Sprint(got) != fmt.Sprint(want) {
		t.Errorf("there are %v", got)
	}
}

// TestBatches tells of batches that are taken in, and of each wrong one at each place of a batch.
func TestBatches(t *testing.T) {
	s, d, w := fresh(t)
	x, y := `{a="x"}`, `{a="y",b="1"}`
	does(t, s, d, w,
		add(at(x, 0)...), add(at(y, end)...), add(at(x, 1, 2, 3)...),
		add(at(x, 3)...), add(at(x, 2)...), add(at(x, 4, 4)...), add(at(x, 5, 4)...), add(at(y, end)...),
		add(slices.Concat(at(`{}`, 7), at(x, 4), at(`{}`, 9), at(x, 9))...),
		add(slices.Concat(at(x, 10), at(`{c="z"}`, 1), at(x, 10))...),
		add(), add(at(x, -1)...), add(at(x, end+1)...), add(at(x, math.MinInt64)...), add(at(x, math.MaxInt64)...))
	if w.of(key(`{c="z"}`)) != nil {
		t.Error("half of a batch came")
	}
	var many []Item
	for i := range 65 {
		many = append(many, at(x, int64(20+i))...)
	}
	does(t, s, d, w, add(many...), add(many[:64]...))

	hist := told(5)
	hist.Count++
	long := strings.Repeat("n", 65)
	for what, wrong := range map[string]Item{
		"no name": {Labels: []api.Label{{Name: "", Value: "x"}}}, "no value": {Labels: []api.Label{{Name: "a"}}}, "a long name": {Labels: []api.Label{{Name: long, Value: "x"}}},
		"names that fall": {Labels: []api.Label{{Name: "b", Value: "x"}, {Name: "a", Value: "x"}}}, "too many labels": {Labels: make([]api.Label, 17)},
		"a time": {T: -1}, "a histogram": {H: hist, T: 1 << 39}, "an elder time": {Labels: labels(x), T: 82}, "a time just at the last one": {Labels: labels(x), T: 83},
	} {
		if what != "a histogram" {
			wrong.H = told(1)
		}
		for place := range 64 {
			l := slices.Clone(many[:64])
			for i := range l {
				l[i].T += 1000
			}
			l[place] = wrong
			want := (&world{series: w.copied().series}).append(l...)
			if want == api.OK {
				t.Fatalf("%s is nothing wrong", what)
			}
			checkRefused(t, fmt.Sprint("Append with ", what, " at ", place), s, d, w, want, func(s *Store) api.Errno { return s.Append(l...) })
		}
	}
}

// TestLastTimes tells that a series' last time stays, whatever became of the sample.
func TestLastTimes(t *testing.T) {
	x := `{a="x"}`
	for what, l := range map[string][]deed{
		"none": {}, "taken out": {del(all, 0, end)}, "below the mark": {retainAt(end)}, "moved": {cutAt(end)}, "dropped": {cutAt(end), retainAt(200), drop()},
		"compacted": {cutAt(end), del(all, 0, end), compact()}, "a new log": {checkpoint()}, "never seen": {retainAt(500)},
	} {
		s, d, w := fresh(t)
		if what == "never seen" {
			does(t, s, d, w, retainAt(200))
		}
		does(t, s, d, w, add(at(x, 99)...), cutAt(100), add(at(x, 100)...))
		does(t, s, d, w, l...)
		for range 2 {
			does(t, s, d, w, add(at(x, 99)...), add(at(x, 100)...), del(all, 101, 101))
			s = open(t, d)
		}
		does(t, s, d, w, add(at(x, 101)...), add(at(x, 101)...))
		checkStore(t, what, open(t, d), d, w)
	}
}

// TestManySeries tells that there are no more than 64 series, whatever became of their samples.
func TestManySeries(t *testing.T) {
	s, d, w := fresh(t)
	one := func(i int, t int64) Item {
		return Item{Labels: []api.Label{{Name: "n", Value: strconv.Itoa(1000 - i)}}, T: t, H: told(t)}
	}
	var l []Item
	for i := range 64 {
		l = append(l, one(i, 5))
	}
	does(t, s, d, w, add(l[:63]...), add(l[63], one(64, 5)), add(one(64, 5), l[63]), add(l[63]), add(one(64, 5)), add(one(3, 6), one(64, 5), one(3, 6)), add(one(3, 5), one(64, 5)), add(one(3, 6), one(3, 6), one(64, 5)))
	if len(w.series) != 64 {
		t.Fatalf("there are %d series", len(w.series))
	}
	does(t, s, d, w, del(all, 0, end), cutAt(end), add(one(64, 5)), add(one(64, 100)), retainAt(end), add(one(64, 100)), add(one(63, 100)))
	s = open(t, d)
	checkStore(t, "opened again", s, d, w)
	does(t, s, d, w, add(one(64, 200)), add(one(0, 200)))
}

func TestDelete(t *testing.T) {
	x, y, z := `{a="x"}`, `{a="x",b="1"}`, `{a="z"}`
	for what, l := range map[string][]deed{"in the head": {}, "in blocks": {cutAt(end)}, "in both": {cutAt(70)}} {
		s, d, w := fresh(t)
		does(t, s, d, w, add(slices.Concat(at(x, 0, 10, 63, 64, 70, 80), at(y, 5, 70, 100), at(z, 3))...))
		does(t, s, d, w, l...)
		does(t, s, d, w,
			del(sel(`{a="none"}`), 0, end), del(sel(`{a="z"}`), 4, end), del(sel(`{a="z"}`), 3, 3), del(sel(`{a="x"}`), 10, 63),
			del(sel(`{a="x"}`), 81, 99), del(all, 70, 90), del(all, 101, end), del(all, 100, end), del(all, end, end),
			del(all, 5, 4), del(all, -1, 5), del(all, 0, end+1), del(all, math.MinInt64, math.MaxInt64), del(all, 0, 0))
		checkStore(t, what, open(t, d), d, w)
		// What comes behind a series' last time isn't taken out.
		does(t, s, d, w, add(at(z, 4, 5)...), add(at(y, 101)...), del(all, 0, end), add(at(y, 102)...))
		checkStore(t, what, open(t, d), d, w)
		checkRefused(t, "Delete by no selector", s, d, w, api.ErrNil, func(s *Store) api.Errno { return s.Delete(nil, 0, 5) })
		checkRefused(t, "Delete of nothing", s, d, w, api.ErrNil, func(s *Store) api.Errno { return s.Delete(nil, 5, 4) })
	}
}

// TestCuts tells what a Delete lays in the log.
func TestCuts(t *testing.T) {
	s, d, w := fresh(t)
	does(t, s, d, w, add(slices.Concat(at(`{a="x"}`, 5), at(`{a="y"}`, 6), at(`{a="z"}`, 7), at(`{}`, 99))...), del(sel(`{a=~"."}`), 6, 10))
	b, _ := d.Read("log-000000")
	c := entry.Change{Kind: entry.Delete}
	for _, of := range []string{`{a="y"}`, `{a="z"}`} {
		c.Cuts = append(c.Cuts, entry.Cut{Key: key(of), Range: tomb.Range{From: 6, To: 10}})
	}
	whole := logOf(t, entry.Image{}, c)
	if its := whole[len(logOf(t, entry.Image{})):]; !strings.HasSuffix(string(b), string(its)) {
		t.Errorf("the log %v doesn't end by %v", b, its)
	}
}

func TestRetain(t *testing.T) {
	x := `{a="x"}`
	for what, l := range map[string][]deed{"in the head": {}, "in blocks": {cutAt(end)}, "in both": {cutAt(70)}} {
		s, d, w := fresh(t)
		does(t, s, d, w, add(at(x, 0, 10, 63, 64, 70, 80, end)...))
		does(t, s, d, w, l...)
		does(t, s, d, w, retainAt(0), retainAt(10), retainAt(11), retainAt(11), retainAt(10), retainAt(0), retainAt(-1), retainAt(end+1), retainAt(math.MinInt64), retainAt(math.MaxInt64))
		checkStore(t, what, open(t, d), d, w)
		does(t, s, d, w, add(at(`{a="y"}`, 5, 10, 11, 12)...), retainAt(70), add(at(`{a="z"}`, 69, 70)...), cutAt(end), retainAt(end), retainAt(end+1), drop(), add(at(`{}`, end-1, end)...))
		checkStore(t, what, open(t, d), d, w)
	}
}

// TestSelect tells of windows all around the samples and the mark.
func TestSelect(t *testing.T) {
	s, d, w := fresh(t)
	does(t, s, d, w, add(slices.Concat(at(`{a="y"}`, 1, 2, 3, 64, 65, 130), at(`{a="x",b="2"}`, 2, 66, 131), at(`{}`, 0, end))...),
		cutAt(3), cutAt(66), add(at(`{b="1"}`, 4, 5)...), cutAt(5), del(sel(`{a="y"}`), 2, 2), retainAt(1))
	for from := int64(-2); from < 140; from++ {
		for to := from - 2; to < 140; to++ {
			if got, want := seriesText(s.Select(all, from, to)), seriesText(w.seen(all, from, to)); got != want {
				t.Fatalf("from %d to %d are %s, not %s", from, to, got, want)
			}
		}
	}
	does(t, s, d, w, retainAt(64), compact(), compact())
	checkSeen(t, "behind a mark", open(t, d), w)
}

// P18.2

func TestMoves(t *testing.T) {
	x, y := `{a="x"}`, `{a="y"}`
	s, d, w := fresh(t)
	does(t, s, d, w, cutAt(end), compact(), drop(), checkpoint())
	does(t, s, d, w, add(slices.Concat(at(x, 0, 63, 64, 65, 300, end), at(y, 62, 63, 128))...),
		cutAt(math.MinInt64), cutAt(-1), cutAt(0), cutAt(1), cutAt(1), cutAt(63), cutAt(64), cutAt(65), compact(), checkpoint(), cutAt(301), cutAt(end))
	s = open(t, d)
	does(t, s, d, w, compact(), compact(), compact(), cutAt(math.MaxInt64), cutAt(math.MaxInt64), drop(), del(all, 63, 64), compact(), retainAt(64), drop(), retainAt(255), drop(), retainAt(256), drop(), compact())
	checkStore(t, "opened again", open(t, d), d, w)
	does(t, s, d, w, retainAt(end), drop())
	if len(w.blocks) != 1 {
		t.Errorf("there are the blocks %v", w.blocks)
	}
}

// TestCompactToNothing tells of a step of which nothing is left, since all was taken out, or is below the mark.
func TestCompactToNothing(t *testing.T) {
	for _, hide := range []deed{del(all, 0, 200), retainAt(101), del(all, 100, 100), retainAt(100)} {
		s, d, w := fresh(t)
		does(t, s, d, w, add(at(`{a="x"}`, 5)...), cutAt(end), add(at(`{a="x"}`, 100)...), cutAt(end), add(at(`{a="x"}`, 1000, 5000)...), cutAt(5000), hide, compact(), compact(), compact())
		checkStore(t, "opened again", open(t, d), d, w)
		does(t, s, d, w, cutAt(end), compact())
		checkStore(t, "opened again", open(t, d), d, w)
	}
}

// TestDrop tells of marks at each end of blocks.
func TestDrop(t *testing.T) {
	for _, mark := range []int64{0, 1, 63, 64, 65, 127, 128, 129, 256, 320, 321, end} {
		s, d, w := fresh(t)
		does(t, s, d, w, add(slices.Concat(at(`{a="x"}`, 5, 64, 300), at(`{a="y"}`, 127, 319))...), cutAt(end), retainAt(mark), drop())
		checkStore(t, "opened again", open(t, d), d, w)
		does(t, s, d, w, drop(), add(at(`{a="x"}`, 301)...), cutAt(end), drop(), compact())
	}
}

// TestMostBlocks tells of just 128 blocks, and one more.
func TestMostBlocks(t *testing.T) {
	times := func(from, to int) []deed {
		var l []deed
		for i := from; i < to; i += 64 {
			var its []int64
			for j := i; j < min(i+64, to); j++ {
				its = append(its, int64(j)*64)
			}
			l = append(l, add(at(`{a="x"}`, its...)...))
		}
		return l
	}
	s, d, w := fresh(t)
	does(t, s, d, w, times(0, 129)...)
	does(t, s, d, w, cutAt(end), cutAt(128*64), cutAt(128*64+1), cutAt(128*64), checkpoint())
	if len(w.blocks) != 128 {
		t.Fatalf("there are %d blocks", len(w.blocks))
	}
	s = open(t, d)
	checkStore(t, "opened again", s, d, w)
	// As many again may be made, where some go.
	does(t, s, d, w, compact(), cutAt(end))
	s, d, w = fresh(t)
	does(t, s, d, w, times(0, 127)...)
	does(t, s, d, w, cutAt(end))
	does(t, s, d, w, times(127, 129)...)
	does(t, s, d, w, cutAt(end), cutAt(128*64), cutAt(end), retainAt(64), drop(), cutAt(end))
}

// crowded is a disk with as many blocks, one of them twice.
func crowded(t *testing.T, long int) *disk.Disk {
	im := entry.Image{Lines: []entry.Line{{Key: key(`{a="x"}`), Last: end, Head: samplesAt(end)}}}
	files := map[string][]byte{}
	for i := range long {
		low := int64(max(i-1, 0)) * 64
		at := low
		if i == 0 {
			at = 1
		}
		im.Blocks = append(im.Blocks, i)
		files[blockFile(i)] = blockOf(t, 0, low, block.Row{Key: key(`{a="x"}`), Samples: samplesAt(at)})
	}
	files["log-000000"] = logOf(t, im)
	return filled(t, files)
}

// TestTooManyBlocks tells of disks that have more blocks than a store makes.
func TestTooManyBlocks(t *testing.T) {
	for _, long := range []int{127, 128, 129, 130, 131, 254} {
		d := crowded(t, long)
		s := open(t, d)
		before := seriesText(s.Select(all, 0, end))
		blocks := imageText(s.Image())
		cut := api.OK
		if long+1 > 128 {
			cut = api.ErrLimit
		}
		compact := api.OK
		if long-1 > 128 {
			compact = api.ErrLimit
		}
		if e := open(t, d.Twin()).Cut(math.MaxInt64); e != cut {
			t.Errorf("Cut with %d blocks answers %d", long, e)
		}
		if e := s.Compact(); e != compact {
			t.Errorf("Compact with %d blocks answers %d", long, e)
		}
		if compact != api.OK && imageText(s.Image()) != blocks {
			t.Errorf("of %d blocks some are gone", long)
		}
		if e := s.Retain(64); e != api.OK {
			t.Errorf("Retain answers %d", e)
		}
		if e := s.Retain(0); e != api.OK {
			t.Errorf("Retain answers %d", e)
		}
		checkDisk(t, "of many blocks", s, d)
		if e := s.Checkpoint(); long < 254 && e != api.OK || long == 254 && e != api.OK {
			t.Errorf("Checkpoint with %d blocks answers %d", long, e)
		}
		if e := s.Drop(); e != api.OK || len(s.Blocks()) >= long {
			t.Errorf("Drop with %d blocks answers %d", long, e)
		}
		if after := seriesText(open(t, d).Select(all, 0, end)); after == before || after != seriesText(s.Select(all, 0, end)) {
			t.Errorf("of %d blocks are seen %s", long, after)
		}
	}
}

// TestNumbers tells of numbers that are the greatest, or nearly so.
func TestNumbers(t *testing.T) {
	head := entry.Line{Key: key(`{a="x"}`), Last: 500, Head: samplesAt(100, 300)}
	moves := map[string]func(*Store) api.Errno{
		"Cut of nothing": func(s *Store) api.Errno { return s.Cut(0) }, "Cut": func(s *Store) api.Errno { return s.Cut(101) }, "Cut of two": func(s *Store) api.Errno { return s.Cut(end) },
		"Compact": func(s *Store) api.Errno { return s.Compact() }, "Drop": func(s *Store) api.Errno { return s.Drop() }, "Checkpoint": func(s *Store) api.Errno { return s.Checkpoint() },
	}
	for log := 65534; log <= 65536; log++ {
		for last := 65534; last <= 65536; last++ {
			for what, move := range moves {
				row := block.Row{Key: head.Key, Samples: samplesAt(1)}
				other := block.Row{Key: head.Key, Samples: samplesAt(2)}
				d := filled(t, map[string][]byte{logFile(log): logOf(t, entry.Image{Blocks: []int{7, last}, Lines: []entry.Line{head}}), blockFile(7): blockOf(t, 0, 0, row), blockFile(last): blockOf(t, 0, 0, other)})
				s := open(t, d)
				seen := seriesText(s.Select(all, 0, end))
				made := map[string]int{"Cut": 1, "Cut of two": 2, "Compact": 1}[what]
				want := api.OK
				if log == 65536 || last+made > 65536 {
					want = api.ErrLimit
				}
				was := diskText(d)
				if e := move(s); e != want {
					t.Errorf("%s of the log %d, with the block %d, answers %d", what, log, last, e)
				}
				if want != api.OK && diskText(d) != was {
					t.Errorf("%s of the log %d, with the block %d, changes the disk", what, log, last)
				}
				if s.ReadOnly() || s.Append(at(`{a="x"}`, 501)...) != api.OK || s.Delete(all, 501, 501) != api.OK {
					t.Errorf("behind %s of the log %d, with the block %d, nothing may be changed", what, log, last)
				}
				checkDisk(t, what, s, d)
				if got := seriesText(open(t, lost(d)).Select(all, 0, end)); got != seen {
					t.Errorf("behind %s are %s", what, got)
				}
			}
		}
	}
}

// TestPlain tells what is answered of no store.
func TestPlain(t *testing.T) {
	var s *Store
	step, is := s.Plan()
	if !s.ReadOnly() || is || len(step.Seqs) > 0 || step.Level != 0 || len(s.Blocks()) > 0 || len(s.Select(all, 0, end)) > 0 || imageText(s.Image()) != imageText(entry.Image{}) {
		t.Error("no store tells something")
	}
	for what, e := range map[string]api.Errno{
		"Append": s.Append(), "Append of one": s.Append(at(`{}`, 1)...), "Append of many": s.Append(make([]Item, 65)...), "Delete": s.Delete(all, 0, 1), "Delete by none": s.Delete(nil, 5, 1), "Delete of none": s.Delete(all, 5, 1),
		"Retain": s.Retain(5), "Retain of none": s.Retain(-1), "Cut": s.Cut(5), "Compact": s.Compact(), "Drop": s.Drop(), "Checkpoint": s.Checkpoint(),
	} {
		if e != api.ErrNil {
			t.Errorf("%s of no store answers %d", what, e)
		}
	}
	s, d, _ := fresh(t)
	if s.ReadOnly() {
		t.Error("a new store is read-only")
	}
	if _, is := s.Plan(); is || len(s.Blocks()) > 0 {
		t.Error("a new store has blocks")
	}
	d.Fuse(0)
	if s.ReadOnly() {
		t.Error("a store is read-only ahead of the step at which the power goes")
	}
	if e := s.Checkpoint(); e != api.ErrDown || !s.ReadOnly() {
		t.Errorf("without power Checkpoint answers %d", e)
	}
}

// W4, W5: what moves samples about changes no answer.

// lines5 are some series' labels.
var lines5 = []string{`{}`, `{a="x"}`, `{a="x",b="1"}`, `{a="y",b="2"}`, `{b="1"}`}

// drawHist is a histogram of any kind.
func drawHist(r *rand.Rand) api.Hist {
	h := api.Hist{Kind: r.IntN(2), Schema: r.IntN(3) - 1, ZeroAt: api.NoZero, Zero: r.Uint64N(5), Sum: r.Int64() >> r.IntN(64)}
	if r.IntN(3) == 0 {
		h.ZeroAt = -1000
	}
	for side := range 2 {
		var l []api.Bucket
		index := r.IntN(4)
		for range r.IntN(4) {
			l = append(l, api.Bucket{Index: index, Count: 1 + r.Uint64()>>(4+r.IntN(59))})
			index += 1 + r.IntN(5)
		}
		if side == 0 {
			h.Pos = l
		} else {
			h.Neg = l
		}
	}
	return counted(h)
}

// drawItems are those of a batch, most of which may be.
func drawItems(r *rand.Rand, w *world, wide int64) []Item {
	var l []Item
	last := map[string]int64{}
	for range 1 + r.IntN(6) {
		text := lines5[r.IntN(len(lines5))]
		from, is := last[text]
		if p := w.of(key(text)); !is && p != nil {
			from = p.last
		}
		t := from + 1 + r.Int64N(wide)
		if r.IntN(40) == 0 {
			t = from
		}
		last[text] = t
		l = append(l, Item{Labels: labels(text), T: t, H: drawHist(r)})
	}
	return l
}

// late is about the last time that there is.
func (w *world) late() int64 {
	last := int64(0)
	for _, p := range w.series {
		last = max(last, p.last)
	}
	return last + 2
}

// draw is a deed of any kind.
func draw(r *rand.Rand, w *world, wide int64) deed {
	late := w.late()
	switch r.IntN(14) {
	case 0:
		from := r.Int64N(late)
		return del(selectors[r.IntN(len(selectors))], from, from+r.Int64N(late))
	case 1:
		return retainAt(r.Int64N(late) / 2)
	case 2, 3, 4:
		return cutAt(r.Int64N(late))
	case 5, 6, 7:
		return compact()
	case 8:
		return drop()
	case 9:
		return checkpoint()
	}
	return add(drawItems(r, w, wide)...)
}

func TestDrawn(t *testing.T) {
	for n := range uint64(60) {
		r := rand.New(rand.NewPCG(13, n))
		wide := int64(1) << r.IntN(12)
		s, d, w := fresh(t)
		for range 50 {
			does(t, s, d, w, draw(r, w, wide))
			switch r.IntN(12) {
			case 0:
				s = open(t, d)
			case 1:
				d = lost(d)
				s = open(t, d)
			default:
				continue
			}
			checkStore(t, "opened again", s, d, w)
		}
	}
}

// TestRest tells that blocks are made one in fewer steps than there are blocks, and that then no two have a time in common.
func TestRest(t *testing.T) {
	for n := range uint64(40) {
		r := rand.New(rand.NewPCG(1305, n))
		wide := int64(1) << r.IntN(14)
		s, d, w := fresh(t)
		for range 12 {
			does(t, s, d, w, add(drawItems(r, w, wide)...), cutAt(r.Int64N(w.late())))
		}
		most := len(s.Blocks())
		steps := 0
		for {
			step, is := s.Plan()
			before := len(s.Blocks())
			if e := s.Compact(); is != (e == api.OK) || !is && e != api.ErrNone {
				t.Fatalf("the step %v, %t is answered by %d", step, is, e)
			}
			if !is {
				break
			}
			steps++
			if after := len(s.Blocks()); after >= before {
				t.Fatalf("the step %v leaves %d blocks of %d", step, after, before)
			}
			w.compact()
			checkStore(t, "behind a step", s, d, w)
		}
		if most > 0 && steps >= most || !plan.Apart(s.Blocks()) {
			t.Fatalf("%d blocks are made, in %d steps, %v", most, steps, s.Blocks())
		}
	}
}

// R3

// spoil makes a list, with the room behind its end, one of zeros.
func spoil[T any](l []T) { clear(l[:cap(l)]) }

// spoilSamples spoils samples with their histograms.
func spoilSamples(l []api.Sample) {
	for _, x := range l {
		spoil(x.H.Pos)
		spoil(x.H.Neg)
	}
	spoil(l)
}

// roomyItems are items with room behind all their lists.
func roomyItems() []Item {
	var l []Item
	for i, text := range []string{`{a="x"}`, `{a="x",b="1"}`, `{a="x"}`} {
		h := told(int64(i) + 3)
		h.Neg = append(make([]api.Bucket, 0, 8), api.Bucket{Index: 3, Count: 4})
		h.Pos = append(make([]api.Bucket, 0, 8), h.Pos...)
		l = append(l, Item{Labels: append(make([]api.Label, 0, 20), labels(text)...), T: int64(10 * i), H: counted(h)})
	}
	return append(l, l...)[:3]
}

// allOf is all that is behind lists, with their room.
func allOf(l []Item) string {
	s := ""
	for _, x := range l[:cap(l)] {
		s += fmt.Sprint(x, x.Labels[:cap(x.Labels)], x.H.Pos[:cap(x.H.Pos)], x.H.Neg[:cap(x.H.Neg)])
	}
	return s
}

func TestOwnMemory(t *testing.T) {
	s, d, w := fresh(t)
	l := roomyItems()
	was := allOf(l)
	w.append(roomyItems()...)
	if e := s.Append(l...); e != api.OK || allOf(l) != was {
		t.Errorf("Append answers %d, and the items are %v", e, l)
	}
	for _, x := range l {
		spoil(x.Labels)
		spoil(x.H.Pos)
		spoil(x.H.Neg)
	}
	spoil(l)
	checkStore(t, "behind what was handed in was spoiled", s, d, w)
	does(t, s, d, w, cutAt(15), cutAt(10), add(at(`{b="1"}`, 64, 128, 130)...), cutAt(129), del(sel(`{b="1"}`), 64, 64))
	for range 2 {
		for _, x := range s.Select(all, 0, end) {
			spoil(x.Labels)
			spoilSamples(x.Samples)
		}
		checkStore(t, "behind what was selected was spoiled", s, d, w)
		im := s.Image()
		for _, x := range im.Lines {
			spoilSamples(x.Head)
			spoil(x.Tombs.Ranges())
		}
		spoil(im.Lines)
		spoil(im.Blocks)
		checkStore(t, "behind an image was spoiled", s, d, w)
		spoil(s.Blocks())
		step, _ := s.Plan()
		spoil(step.Seqs)
		checkStore(t, "behind blocks and a step were spoiled", s, d, w)
		does(t, s, d, w, compact())
		s = open(t, d)
	}
	// What is told stays, whatever is done.
	image, seen, blocks := s.Image(), s.Select(all, 0, end), s.Blocks()
	texts := imageText(image) + fmt.Sprint(seen, blocks)
	does(t, s, d, w, add(at(`{b="1"}`, 200, 201)...), del(all, 0, 20), retainAt(130), cutAt(end), compact(), drop())
	if again := imageText(image) + fmt.Sprint(seen, blocks); again != texts {
		t.Errorf("what was told is now %s, not %s", again, texts)
	}
	// No two lists of one answer share their room.
	image, seen = s.Image(), s.Select(all, 0, end)
	for i, x := range image.Lines {
		image.Lines[i].Head = append(x.Head, api.Sample{T: 1})
	}
	for i, x := range seen {
		seen[i].Samples = append(x.Samples, api.Sample{T: 1})
		seen[i].Labels = append(x.Labels, api.Label{})
	}
	checkStore(t, "behind all was made longer", s, d, w)
}
