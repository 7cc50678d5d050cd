package store

import (
	"fmt"
	"math/rand/v2"
	"pluvial/api"
	"pluvial/disk"
	"pluvial/entry"
	"pluvial/plan"
	"slices"
	"testing"
)

// P18.4, W2: whatever the power does.

// script are deeds by which each part of a store is used, all of which can be done.
func script() []deed {
	x, y := `{a="x"}`, `{a="y",b="1"}`
	return []deed{
		add(slices.Concat(at(x, 1, 2), at(y, 3))...), add(slices.Concat(at(x, 64), at(`{}`, 5), at(x, 65, 130))...), cutAt(70), del(sel(`{a="x"}`), 2, 64), checkpoint(),
		add(at(y, 66, 300)...), cutAt(67), retainAt(3), compact(), add(at(x, 200)...), compact(), cutAt(end), retainAt(70), drop(), compact(), add(at(`{c="z"}`, 400)...), cutAt(401), retainAt(320), drop(), add(at(x, 401)...), checkpoint(),
	}
}

// stateOf is all of a world that no moving about changes.
func stateOf(w *world) string { return w.lines(false) + seriesText(w.seen(all, 0, end)) }

// stateOfStore is the same of a store.
func stateOfStore(s *Store) string {
	return linesText(s.Image(), false) + seriesText(s.Select(all, 0, end))
}

// losses are a disk behind many ways to lose its power: with all that isn't sure, with none of it, with one name of it, and drawn ones.
func losses(d *disk.Disk, r *rand.Rand, long int) []*disk.Disk {
	yes := slices.Repeat([]bool{true}, 300)
	var l []*disk.Disk
	for _, cut := range []uint16{0, 1, 65535} {
		cuts := slices.Repeat([]uint16{cut}, 300)
		l = append(l, d.Crash(nil, cuts), d.Crash(yes, cuts))
	}
	for range long {
		keep := make([]bool, 8)
		cut := make([]uint16, 8)
		for i := range keep {
			keep[i] = r.IntN(2) == 0
			cut[i] = uint16(r.UintN(300))
		}
		l = append(l, d.Crash(keep, cut))
	}
	return l
}

// waysToKeep are all ways to keep names of a disk that has few.
func waysToKeep(d *disk.Disk, names int) []*disk.Disk {
	var l []*disk.Disk
	for n := range 1 << names {
		keep := make([]bool, names)
		for i := range keep {
			keep[i] = n>>i&1 == 1
		}
		l = append(l, d.Crash(keep, nil), d.Crash(keep, slices.Repeat([]uint16{13}, names)))
	}
	return l
}

// run does deeds to a store and its world, up to the one at which the power goes; the worlds that may be behind that, and which deed it was.
func run(t *testing.T, s *Store, d *disk.Disk, w *world, l []deed) (worlds [2]*world, at int) {
	t.Helper()
	for i, x := range l {
		before := w.copied()
		want := x.in(w)
		got := x.do(s)
		if d.Down() {
			if got != api.ErrDown || !s.ReadOnly() {
				t.Fatalf("%s without power answers %d", x.what, got)
			}
			return [2]*world{before, w}, i
		}
		if got != want {
			t.Fatalf("%s answers %d, not %d", x.what, got, want)
		}
	}
	return [2]*world{w, w}, len(l)
}

// which is the world that a store is as: the first one, if it may be either; -1: neither.
func which(s *Store, worlds [2]*world) int {
	got := stateOfStore(s)
	for i, w := range worlds {
		if got == stateOf(w) {
			return i
		}
	}
	return -1
}

// checkBehind looks whether what a loss of power left is opened as one of the worlds; which one.
func checkBehind(t *testing.T, what string, d *disk.Disk, worlds [2]*world) (*Store, int) {
	t.Helper()
	s := open(t, d)
	i := which(s, worlds)
	if i < 0 {
		t.Fatalf("%s: there is\n%s, neither\n%s, nor\n%s", what, stateOfStore(s), stateOf(worlds[0]), stateOf(worlds[1]))
	}
	if s.ReadOnly() {
		t.Fatalf("%s: the store is read-only", what)
	}
	checkDisk(t, what, s, d)
	return s, i
}

// fusedAt tells where the power went.
func fusedAt(fuse int, l []deed, i int) string {
	what := "Open"
	if i >= 0 && i < len(l) {
		what = l[i].what
	}
	return fmt.Sprintf("the power went at the step %d, in %s", fuse, what)
}

// TestPower lets the power go at each step of a script, in many ways, and goes on to its end.
func TestPower(t *testing.T) {
	l := script()
	r := rand.New(rand.NewPCG(1308, 0))
	for fuse := 0; ; fuse++ {
		d := roomyDisk()
		w := &world{}
		d.Fuse(fuse)
		s, name, e := Open(d)
		worlds, i := [2]*world{w, w}, -1
		if e == api.OK {
			worlds, i = run(t, s, d, w, l)
			if state := stateOfStore(s); state != stateOf(worlds[0]) {
				t.Fatalf("%s: the store tells\n%s", fusedAt(fuse, l, i), state)
			}
		} else if e != api.ErrDown || s != nil || name != "" || !d.Down() {
			t.Fatalf("%s: %q, %d", fusedAt(fuse, l, i), name, e)
		}
		for _, behind := range waysToKeep(d, 5) {
			checkBehind(t, fusedAt(fuse, l, i), behind, worlds)
		}
		for _, behind := range losses(d, r, 12) {
			s, k := checkBehind(t, fusedAt(fuse, l, i), behind, worlds)
			goOnBehind(t, fusedAt(fuse, l, i), s, behind, worlds[k], l[min(max(i+k, 0), len(l)):])
		}
		if !d.Down() {
			return
		}
	}
}

// goOnBehind looks whether a store goes on as it should, with the next deeds and one more.
func goOnBehind(t *testing.T, what string, s *Store, d *disk.Disk, w *world, l []deed) {
	t.Helper()
	w = worldOf(w, s)
	for _, x := range append(slices.Clone(l[:min(3, len(l))]), add(at(`{last="1"}`, 1000)...)) {
		want := x.in(w)
		if e := x.do(s); e != want {
			t.Fatalf("%s, then %s answers %d, not %d", what, x.what, e, want)
		}
	}
	checkStore(t, what, s, d, w)
	d = lost(d)
	checkStore(t, what+", and opened again", open(t, d), d, w)
}

// TestPowerInOpen lets the power go at each step of openings, one behind the other, of disks that losses of power left.
func TestPowerInOpen(t *testing.T) {
	l := script()
	r := rand.New(rand.NewPCG(1309, 0))
	for fuse := 0; ; fuse++ {
		d := roomyDisk()
		w := &world{}
		d.Fuse(fuse)
		s, _, e := Open(d)
		worlds, i := [2]*world{w, w}, -1
		if e == api.OK {
			worlds, i = run(t, s, d, w, l)
		}
		for _, behind := range losses(d, r, 2)[3:] {
			// A torn end, and files that don't count, so that there is something to do.
			behind.Append("blk-000077", []byte("loose"))
			behind.Append("new", []byte("new"))
			checkOpenings(t, fusedAt(fuse, l, i), behind, r, worlds)
		}
		if !d.Down() {
			return
		}
	}
}

// checkOpenings opens a disk with each fuse, and then what is left.
func checkOpenings(t *testing.T, what string, d *disk.Disk, r *rand.Rand, worlds [2]*world) {
	t.Helper()
	first := -1
	for fuse := 0; ; fuse++ {
		x := d.Twin()
		x.Fuse(fuse)
		s, name, e := Open(x)
		if !x.Down() {
			if e != api.OK || which(s, worlds) < 0 {
				t.Fatalf("%s: opened with the fuse %d: %d", what, fuse, e)
			}
			return
		}
		if e != api.ErrDown || s != nil || name != "" {
			t.Fatalf("%s: opened with the fuse %d: %q, %d", what, fuse, name, e)
		}
		for _, y := range losses(x, r, 2)[4:] {
			_, k := checkBehind(t, fmt.Sprint(what, ", and at the step ", fuse, " of the opening"), y, worlds)
			// An opening makes nothing undone: whatever stays, it is the same.
			if first >= 0 && stateOf(worlds[k]) != stateOf(worlds[first]) {
				t.Fatalf("%s: opened with the fuse %d it is otherwise", what, fuse)
			}
			first = k
		}
	}
}

// TestPowerDrawn lets the power go time and again.
func TestPowerDrawn(t *testing.T) {
	for n := range uint64(100) {
		r := rand.New(rand.NewPCG(1310, n))
		wide := int64(1) << r.IntN(9)
		d := roomyDisk()
		w := &world{}
		for range 12 {
			d.Fuse(r.IntN(60))
			s, name, e := Open(d)
			worlds := [2]*world{w, w}
			if e == api.OK {
				worlds = drawUntil(t, s, d, w, r, wide)
			} else if e != api.ErrDown || name != "" || s != nil {
				t.Fatalf("opened: %q, %d", name, e)
			}
			all := losses(d, r, 6)
			d = all[r.IntN(len(all))]
			x, k := checkBehind(t, "drawn", d.Twin(), worlds)
			w = worldOf(worlds[k], x)
		}
	}
}

// drawUntil does drawn deeds till the power goes; the worlds that may be behind that.
func drawUntil(t *testing.T, s *Store, d *disk.Disk, w *world, r *rand.Rand, wide int64) [2]*world {
	t.Helper()
	for range 60 {
		x := draw(r, w, wide)
		before := w.copied()
		want := x.in(w)
		got := x.do(s)
		if d.Down() {
			if got != api.ErrDown && got != want {
				t.Fatalf("%s without power answers %d", x.what, got)
			}
			return [2]*world{before, w}
		}
		if got != want {
			t.Fatalf("%s answers %d, not %d", x.what, got, want)
		}
		if got, want := stateOfStore(s), stateOf(w); got != want {
			t.Fatalf("behind %s there is\n%s, not\n%s", x.what, got, want)
		}
	}
	return [2]*world{w, w}
}

// worldOf is a world with its samples where a store has them.
func worldOf(w *world, s *Store) *world {
	w = w.copied()
	w.blocks = nil
	head := map[string]map[int64]bool{}
	for _, x := range s.Image().Lines {
		head[x.Key] = map[int64]bool{}
		for _, y := range x.Head {
			head[x.Key][y.T] = true
		}
	}
	number := map[moment]int{}
	for _, n := range s.image.Blocks {
		b := s.blocks[n]
		w.made++
		w.blocks = append(w.blocks, plan.Item{Seq: w.made, Meta: b.Meta})
		for _, row := range b.Rows {
			i, _ := lineOf(s.image.Lines, row.Key)
			for _, y := range row.Samples {
				number[moment{i, y.T}] = w.made
			}
		}
	}
	w.each(func(p *past, x *kept) {
		i, _ := lineOf(s.image.Lines, p.key)
		n := number[moment{i, x.t}]
		switch {
		case head[p.key][x.t]:
			x.in = inHead
		case n > 0:
			x.in = n
		default:
			x.in = gone
		}
	})
	return w
}

// Disks that are full.

// checkReadOnly looks whether a store that is read-only says so, by what is wrong otherwise, too, and changes nothing.
func checkReadOnly(t *testing.T, what string, s *Store, d *disk.Disk, w *world, want api.Errno) {
	t.Helper()
	was := diskText(d)
	state := stateOfStore(s)
	compacts := want
	if _, is := s.Plan(); !is {
		compacts = api.ErrNone
	}
	wrong := told(1)
	wrong.Count++
	for of, x := range map[string][2]api.Errno{
		"Append": {s.Append(at(`{a="x"}`, 5000)...), want}, "Append of an elder time": {s.Append(at(`{a="x"}`, 0)...), want}, "Append of nothing": {s.Append(), api.ErrArg}, "Append of 65": {s.Append(make([]Item, 65)...), api.ErrLimit},
		"Append of a wrong label": {s.Append(Item{Labels: []api.Label{{}}, T: -1, H: wrong}), api.ErrLabel}, "Append at a wrong time": {s.Append(Item{T: -1, H: wrong}), api.ErrRange}, "Append of a wrong histogram": {s.Append(Item{H: wrong}), api.ErrCount},
		"Delete": {s.Delete(all, 0, end), want}, "Delete of none": {s.Delete(sel(`{a="none"}`), 0, end), want}, "Delete of no range": {s.Delete(all, 5, 4), api.ErrRange}, "Delete by none": {s.Delete(nil, 5, 4), api.ErrNil},
		"Retain": {s.Retain(end), want}, "Retain of a lower mark": {s.Retain(0), want}, "Retain of none": {s.Retain(-1), api.ErrRange},
		"Cut": {s.Cut(end), want}, "Cut of nothing": {s.Cut(0), want}, "Compact": {s.Compact(), compacts}, "Drop": {s.Drop(), want}, "Checkpoint": {s.Checkpoint(), want},
	} {
		if x[0] != x[1] {
			t.Errorf("%s: %s answers %d, not %d", what, of, x[0], x[1])
		}
	}
	if !s.ReadOnly() || stateOfStore(s) != state || state != stateOf(w) || diskText(d) != was {
		t.Errorf("%s: read-only, the store changes", what)
	}
	if want != api.ErrDown {
		checkSeen(t, what, s, w)
	}
}

// TestFull has a script done with each room: where there is no more of it, nothing is changed, and the store may be read; opened anew, it goes on.
func TestFull(t *testing.T) {
	l := script()
	whole := false
	for room := 0; !whole; room++ {
		d, _ := disk.New(room)
		w := &world{}
		s := open(t, d)
		if s.ReadOnly() {
			checkReadOnly(t, fmt.Sprint("in no room of ", room), s, d, w, api.ErrRead)
			if len(d.Names()) > 0 {
				t.Fatalf("in no room there are %v", d.Names())
			}
			continue
		}
		whole = true
		for _, x := range l {
			before := w.copied()
			want := x.in(w)
			was := filesText(filesOf(d))
			got := x.do(s)
			if got == want {
				continue
			}
			whole = false
			what := fmt.Sprint("in a room of ", room, " ", x.what)
			if got != api.ErrFull {
				t.Fatalf("%s answers %d, not %d", what, got, want)
			}
			w = before
			checkStore(t, what, s, d, w)
			if filesText(filesOf(d)) != was {
				t.Fatalf("%s leaves %v", what, d.Names())
			}
			checkReadOnly(t, what, s, d, w, api.ErrRead)
			s = open(t, d)
			checkStore(t, what, s, d, w)
			if s.ReadOnly() {
				t.Fatalf("%s leaves a store that is read-only, opened anew", what)
			}
		}
		if got := stateOfStore(open(t, lost(d))); got != stateOf(w) {
			t.Fatalf("in a room of %d there is\n%s, not\n%s", room, got, stateOf(w))
		}
	}
}

// TestFullAndPower lets the power go while there is no room either.
func TestFullAndPower(t *testing.T) {
	l := script()
	r := rand.New(rand.NewPCG(1311, 0))
	for room := 20; room < 1500; room += 37 {
		for fuse := 0; fuse < 60; fuse++ {
			d, _ := disk.New(room)
			w := &world{}
			s := open(t, d)
			d.Fuse(fuse)
			worlds := [2]*world{w, w}
			for _, x := range l {
				before := w.copied()
				want := x.in(w)
				got := x.do(s)
				worlds = [2]*world{before, w}
				if d.Down() && got != api.ErrDown || got == api.ErrFull && !s.ReadOnly() {
					t.Fatalf("%s answers %d", x.what, got)
				}
				if got == api.OK && got == want {
					worlds = [2]*world{w, w}
					continue
				}
				break
			}
			if got := stateOfStore(s); got != stateOf(worlds[0]) {
				t.Fatalf("in a room of %d, with the fuse %d, there is\n%s", room, fuse, got)
			}
			for _, x := range losses(d, r, 2) {
				if behind := open(t, x); which(behind, worlds) < 0 {
					t.Fatalf("in a room of %d, with the fuse %d, opened again, there is\n%s", room, fuse, stateOfStore(behind))
				}
			}
		}
	}
}

// TestFullOpen tells of torn logs that can't be made anew: they may be read; where files that don't count go, there may be room.
func TestFullOpen(t *testing.T) {
	im, l := told3()
	log := append(logOf(t, im, l...), 5, 0)
	files := blocks3(t)
	used := len(log)
	for _, b := range files {
		used += len(b)
	}
	anew := len(logOf(t, func() entry.Image {
		for _, c := range l {
			im, _ = Apply(im, c)
		}
		return im
	}()))
	for _, loose := range []int{0, 1, 40} {
		for more := range anew + 3 {
			d, _ := disk.New(used + more + loose)
			for name, b := range files {
				put(t, d, name, b)
			}
			put(t, d, "log-000002", log)
			put(t, d, "new", make([]byte, loose))
			put(t, d, "blk-000001", nil)
			put(t, d, "log-000001", nil)
			s := open(t, d)
			want := more+loose < anew
			if s.ReadOnly() != want || textOfStore(s) != text3(t, 4) {
				t.Fatalf("with room for %d bytes, of which %d go, the store is read-only: %t", more+loose, loose, s.ReadOnly())
			}
			names := []string{"blk-000004", "blk-000009", "log-000003"}
			e := api.OK
			if want {
				names[2] = "log-000002"
				e = api.ErrRead
			}
			if !slices.Equal(d.Names(), names) {
				t.Fatalf("there are the files %v, not %v", d.Names(), names)
			}
			if got := s.Checkpoint(); want && got != e || !want && got == api.ErrRead {
				t.Fatalf("Checkpoint answers %d", got)
			}
			if got := s.Retain(0); want && got != e {
				t.Fatalf("Retain answers %d", got)
			}
			if textOfStore(open(t, lost(d))) != text3(t, 4) {
				t.Fatalf("with room for %d bytes it is otherwise, opened again", more)
			}
		}
	}
}

// TestGreatestLog tells of a log with the greatest number: whole it goes on, torn it may be read.
func TestGreatestLog(t *testing.T) {
	for _, torn := range []bool{false, true} {
		files := files3(t, 4)
		files["log-065536"] = files["log-000002"]
		if torn {
			files["log-065536"] = append(files["log-065536"], 9, 0, 0, 0)
		}
		d := filled(t, files)
		s := open(t, d)
		if s.ReadOnly() != torn || textOfStore(s) != text3(t, 4) {
			t.Errorf("a log, torn %t: read-only is %t", torn, s.ReadOnly())
		}
		if want := []string{"blk-000004", "blk-000009", "log-065536"}; !slices.Equal(d.Names(), want) {
			t.Errorf("there are %v", d.Names())
		}
		want, moves := api.OK, api.ErrLimit
		if torn {
			want, moves = api.ErrRead, api.ErrRead
		}
		if e := s.Append(at(`{a="x"}`, 200)...); e != want {
			t.Errorf("Append answers %d", e)
		}
		for what, e := range map[string]api.Errno{"Cut": s.Cut(end), "Cut of nothing": s.Cut(0), "Compact": s.Compact(), "Drop": s.Drop(), "Checkpoint": s.Checkpoint()} {
			if e != moves {
				t.Errorf("%s answers %d, not %d", what, e, moves)
			}
		}
		if e := s.Retain(5); e != want {
			t.Errorf("Retain answers %d", e)
		}
		if got := textOfStore(open(t, lost(d))); got != textOfStore(s) {
			t.Errorf("opened again it is\n%s", got)
		}
	}
}

// TestMostFiles tells of a disk that has as many files as may be.
func TestMostFiles(t *testing.T) {
	for more := range 4 {
		d := roomyDisk()
		for i := range 252 + more {
			put(t, d, fmt.Sprint("x", i), nil)
		}
		s := open(t, d)
		w := &world{}
		does(t, s, d, w, add(at(`{a="x"}`, 5, 64)...))
		checkpoint, cut := api.OK, api.OK
		if more > 2 {
			checkpoint = api.ErrFull
		}
		// The blocks, and the new log beside the one that is.
		if more > 0 {
			cut = api.ErrFull
		}
		x := d.Twin()
		if e := open(t, x).Checkpoint(); e != checkpoint {
			t.Errorf("with %d files Checkpoint answers %d", 253+more, e)
		}
		if cut != api.OK {
			w = w.copied()
			if e := s.Cut(end); e != cut {
				t.Errorf("with %d files Cut answers %d", 253+more, e)
			}
			checkStore(t, "with many files", s, d, w)
			checkReadOnly(t, "with many files", s, d, w, api.ErrRead)
			s = open(t, d)
			checkStore(t, "opened again", s, d, w)
			continue
		}
		does(t, s, d, w, cutAt(end))
	}
	d := roomyDisk()
	for i := range 256 {
		put(t, d, fmt.Sprint("x", i), nil)
	}
	checkReadOnly(t, "with 256 files", open(t, d), d, &world{}, api.ErrRead)
}

// R2: an operation wrong in two ways.

func TestOrder(t *testing.T) {
	wrong := told(1)
	wrong.Count++
	right := at(`{a="x"}`, 70)[0]
	elder := at(`{a="x"}`, 5)[0]
	badLabel := Item{Labels: []api.Label{{}}, T: -1, H: wrong}
	many := Item{Labels: make([]api.Label, 17), T: -1, H: wrong}
	badTime := Item{T: end + 1, H: wrong}
	badHist := Item{H: wrong}
	ask := func(t *testing.T, s *Store, what string, want api.Errno, l ...Item) {
		t.Helper()
		if e := s.Append(l...); e != want {
			t.Errorf("Append of %s answers %d, not %d", what, e, want)
		}
	}
	s, d, w := fresh(t)
	does(t, s, d, w, add(at(`{a="x"}`, 5, 64)...), cutAt(10), add(at(`{a="y"}`, 6)...), cutAt(10))
	full, small := s, d
	filler := make([]byte, 1<<20-d.Used()-1)
	put(t, d, "filler", filler)
	for what, s := range map[string]*Store{"with power": s, "without": func() *Store { d := d.Twin(); s := open(t, d); d.Fuse(0); d.SyncNames(); return s }()} {
		_, down := map[string]int{"without": 1}[what]
		or := func(e api.Errno) api.Errno {
			if down {
				return api.ErrDown
			}
			return e
		}
		ask(t, s, "a label, a time, a histogram", api.ErrLabel, badLabel)
		ask(t, s, "many labels, a time", api.ErrLimit, many)
		ask(t, s, "a time, a histogram", api.ErrRange, badTime)
		ask(t, s, "a histogram ahead of a label", api.ErrCount, badHist, badLabel)
		ask(t, s, "a time ahead of a histogram", api.ErrRange, badTime, badHist)
		ask(t, s, "an elder time ahead of a label", api.ErrLabel, elder, badLabel)
		ask(t, s, "an elder time ahead of a histogram", api.ErrCount, elder, badHist)
		ask(t, s, "an elder time, and no room", or(api.ErrOrder), right, elder)
		if got := s.ReadOnly(); got != down {
			t.Errorf("%s the store is read-only: %t", what, got)
		}
	}
	// Without room.
	ask(t, full, "no room", api.ErrFull, right)
	ask(t, full, "an elder time in a store that is read-only", api.ErrRead, elder)
	checkReadOnly(t, "full", full, small, w, api.ErrRead)
	if e := full.Compact(); e != api.ErrRead {
		t.Errorf("Compact answers %d", e)
	}
	small.Fuse(0)
	small.SyncNames()
	ask(t, full, "a store that is full, and without power", api.ErrDown, elder)
	checkReadOnly(t, "full, and without power", full, small, w, api.ErrDown)
}

// TestOrderOfMoves tells of moves that are wrong in two ways.
func TestOrderOfMoves(t *testing.T) {
	// Without a next step, and without power.
	s, d, _ := fresh(t)
	d.Fuse(0)
	if e := s.Compact(); e != api.ErrNone || d.Down() {
		t.Errorf("Compact of nothing answers %d", e)
	}
	d.SyncNames()
	if e := s.Compact(); e != api.ErrNone {
		t.Errorf("Compact of nothing answers %d", e)
	}
	// With too many blocks, without power or with a number that is too great: either is told as the document has it.
	d = crowded(t, 131)
	s = open(t, d)
	d.Fuse(0)
	for what, e := range map[string]api.Errno{"Cut": s.Cut(end + 1), "Compact": s.Compact()} {
		if e != api.ErrLimit || d.Down() {
			t.Errorf("%s with 131 blocks answers %d", what, e)
		}
	}
	d.SyncNames()
	for what, e := range map[string]api.Errno{"Cut": s.Cut(end + 1), "Compact": s.Compact()} {
		if e != api.ErrLimit {
			t.Errorf("%s with 131 blocks, without power, answers %d", what, e)
		}
	}
	for what, e := range map[string]api.Errno{"Drop": s.Drop(), "Checkpoint": s.Checkpoint()} {
		if e != api.ErrDown {
			t.Errorf("%s with 131 blocks, without power, answers %d", what, e)
		}
	}
	// Numbers that are too great: behind the power, ahead of the room.
	files := files3(t, 4)
	files["log-065536"] = files["log-000002"]
	delete(files, "log-000002")
	d = filled(t, files)
	put(t, d, "filler", make([]byte, 1<<20-d.Used()))
	s = open(t, d)
	moves := func(want api.Errno) {
		t.Helper()
		for what, e := range map[string]api.Errno{"Cut": s.Cut(end), "Compact": s.Compact(), "Drop": s.Drop(), "Checkpoint": s.Checkpoint()} {
			if e != want {
				t.Errorf("%s answers %d, not %d", what, e, want)
			}
		}
	}
	moves(api.ErrLimit)
	if s.ReadOnly() {
		t.Error("a number that is too great makes the store read-only")
	}
	if e := s.Retain(0); e != api.ErrFull || !s.ReadOnly() {
		t.Errorf("Retain answers %d", e)
	}
	moves(api.ErrRead)
	d.Fuse(0)
	d.SyncNames()
	moves(api.ErrDown)
}

// R1: calls of any kind.

func TestAnything(t *testing.T) {
	numbers := []int64{-1 << 63, -1, 0, 1, 63, 64, 5000, end, end + 1, 1<<63 - 1}
	for n := range uint64(300) {
		r := rand.New(rand.NewPCG(1312, n))
		number := func() int64 { return numbers[r.IntN(len(numbers))] }
		d, _ := disk.New(r.IntN(4000))
		if r.IntN(3) == 0 {
			d.Fuse(r.IntN(100))
		}
		s, _, _ := Open(d)
		switch r.IntN(6) {
		case 0:
			s = &Store{}
		case 1:
			s = nil
		}
		for range 40 {
			switch r.IntN(11) {
			case 0:
				s.Delete(selectors[r.IntN(len(selectors))], number(), number())
			case 1:
				s.Retain(number() / (1 + r.Int64N(3)))
			case 2:
				s.Cut(number())
			case 3:
				s.Compact()
			case 4:
				s.Drop()
			case 5:
				s.Checkpoint()
			case 6:
				s.Select(selectors[r.IntN(len(selectors))], number(), number())
			default:
				var l []Item
				for range r.IntN(4) {
					l = append(l, Item{Labels: make([]api.Label, r.IntN(3)), T: number(), H: drawHist(r)}, Item{T: r.Int64N(9000), H: drawHist(r)}, Item{Labels: labels(lines5[r.IntN(5)]), T: r.Int64N(9000), H: api.Hist{Kind: r.IntN(3), Count: r.Uint64N(2)}})
				}
				s.Append(l...)
			}
			s.Plan()
			s.Blocks()
			s.Image()
			s.ReadOnly()
		}
	}
	// Images and changes that may not be.
	for n := range uint64(2000) {
		r := rand.New(rand.NewPCG(1313, n))
		var im entry.Image
		for range r.IntN(4) {
			head := samplesAt(number3(r)...)
			im.Lines = append(im.Lines, entry.Line{Key: []string{"", "a", key(`{a="x"}`)}[r.IntN(3)], Last: numbers[r.IntN(len(numbers))], Head: head})
		}
		im.Mark = numbers[r.IntN(len(numbers))]
		c := drawChange(r)
		c.Kind += r.IntN(2) * (r.IntN(5) - 2)
		was := imageText(im)
		got, e := Apply(im, c)
		if imageText(im) != was || e != api.OK && imageText(got) != was {
			t.Fatalf("of %v there is %v, %d", im, got, e)
		}
	}
}

// number3 are some numbers, rising or not.
func number3(r *rand.Rand) []int64 {
	var l []int64
	for range r.IntN(4) {
		l = append(l, r.Int64N(20))
	}
	return l
}
