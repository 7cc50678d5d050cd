package store

import (
	"bytes"
	"cmp"
	"fmt"
	"maps"
	"pluvial/api"
	"pluvial/block"
	"pluvial/disk"
	"pluvial/entry"
	"pluvial/hist"
	"pluvial/label"
	"pluvial/match"
	"pluvial/plan"
	"pluvial/sum"
	"pluvial/tomb"
	"regexp"
	"slices"
	"strconv"
	"strings"
	"testing"
)

// The tests hold stores against a world that keeps each sample that ever came, and where it is: in the head, in a block, or nowhere. What the lower layers promise (labels, selectors, plans, bytes) is taken from them.

// Where samples are: blocks are told by numbers above 0, of the world's own.
const (
	inHead = 0
	gone   = -1
)

// kept is a sample that came.
type kept struct {
	t  int64
	h  api.Hist
	in int
}

// past is what befell a series.
type past struct {
	key  string
	last int64
	out  []tomb.Range
	came []kept
}

// world is what befell a store.
type world struct {
	mark   int64
	series []*past
	blocks []plan.Item
	made   int
}

// copied is the same world, for itself.
func (w *world) copied() *world {
	c := *w
	c.blocks = slices.Clone(w.blocks)
	c.series = nil
	for _, p := range w.series {
		x := *p
		x.out = slices.Clone(p.out)
		x.came = slices.Clone(p.came)
		c.series = append(c.series, &x)
	}
	return &c
}

// of is a series' past; nil: there is none.
func (w *world) of(key string) *past {
	for _, p := range w.series {
		if p.key == key {
			return p
		}
	}
	return nil
}

// isOut says whether a time was taken out.
func (p *past) isOut(t int64) bool {
	return slices.ContainsFunc(p.out, func(r tomb.Range) bool { return r.From <= t && t <= r.To })
}

// each goes through all samples.
func (w *world) each(do func(p *past, x *kept)) {
	for _, p := range w.series {
		for i := range p.came {
			do(p, &p.came[i])
		}
	}
}

// wrong says what is wrong with an item by itself.
func wrong(x Item) api.Errno {
	if e := label.Check(x.Labels); e != api.OK {
		return e
	}
	if x.T < 0 || x.T > 1<<40 {
		return api.ErrRange
	}
	return hist.Check(x.H)
}

func (w *world) append(l ...Item) api.Errno {
	if len(l) == 0 {
		return api.ErrArg
	}
	if len(l) > 64 {
		return api.ErrLimit
	}
	for _, x := range l {
		if e := wrong(x); e != api.OK {
			return e
		}
	}
	was := w.copied()
	for _, x := range l {
		key := label.Key(x.Labels)
		p := w.of(key)
		if p == nil && len(w.series) == 64 {
			*w = *was
			return api.ErrSeries
		}
		if p == nil {
			p = &past{key: key, last: -1}
			w.series = append(w.series, p)
		}
		if x.T <= p.last {
			*w = *was
			return api.ErrOrder
		}
		p.last = x.T
		if x.T >= w.mark {
			p.came = append(p.came, kept{t: x.T, h: hist.Clone(x.H)})
		}
	}
	slices.SortFunc(w.series, func(a, b *past) int { return cmp.Compare(a.key, b.key) })
	return api.OK
}

// means says whether a selector means a series.
func (p *past) means(m *match.Selector) bool {
	l, _ := label.From(p.key)
	return m.Match(l)
}

func (w *world) delete(m *match.Selector, from, to int64) api.Errno {
	if m == nil {
		return api.ErrNil
	}
	if from < 0 || from > to || to > 1<<40 {
		return api.ErrRange
	}
	for _, p := range w.series {
		if !p.means(m) || p.last < from {
			continue
		}
		p.out = append(p.out, tomb.Range{From: from, To: min(to, p.last)})
		for i, x := range p.came {
			if x.in == inHead && p.isOut(x.t) {
				p.came[i].in = gone
			}
		}
	}
	return api.OK
}

func (w *world) retain(mark int64) api.Errno {
	if mark < 0 || mark > 1<<40 {
		return api.ErrRange
	}
	w.mark = max(w.mark, mark)
	w.each(func(_ *past, x *kept) {
		if x.in == inHead && x.t < w.mark {
			x.in = gone
		}
	})
	return api.OK
}

// block is the number of a new block.
func (w *world) block(level int, t int64) int {
	width := int64(64) << (2 * level)
	low := t / width * width
	w.made++
	w.blocks = append(w.blocks, plan.Item{Seq: w.made, Meta: block.Meta{Low: low, High: low + width, Level: level}})
	return w.made
}

func (w *world) cut(t int64) api.Errno {
	was := w.copied()
	steps := map[int64]int{}
	w.each(func(_ *past, x *kept) {
		if x.in != inHead || x.t >= t {
			return
		}
		if steps[x.t/64] == 0 {
			steps[x.t/64] = w.block(0, x.t)
		}
		x.in = steps[x.t/64]
	})
	if len(w.blocks) > 128 {
		*w = *was
		return api.ErrLimit
	}
	return api.OK
}

func (w *world) compact() api.Errno {
	s, is := plan.Next(w.blocks)
	if !is {
		return api.ErrNone
	}
	was := w.copied()
	low := int64(1 << 50)
	w.blocks = slices.DeleteFunc(w.blocks, func(x plan.Item) bool {
		its := slices.Contains(s.Seqs, x.Seq)
		if its {
			low = min(low, x.Low)
		}
		return its
	})
	made := 0
	w.each(func(p *past, x *kept) {
		if !slices.Contains(s.Seqs, x.in) {
			return
		}
		if p.isOut(x.t) || x.t < w.mark {
			x.in = gone
			return
		}
		if made == 0 {
			made = w.block(s.Level, low)
		}
		x.in = made
	})
	if len(w.blocks) > 128 {
		*w = *was
		return api.ErrLimit
	}
	return api.OK
}

func (w *world) drop() api.Errno {
	left := slices.DeleteFunc(slices.Clone(w.blocks), func(x plan.Item) bool { return x.High <= w.mark })
	w.each(func(_ *past, x *kept) {
		if x.in > 0 && !slices.ContainsFunc(left, func(b plan.Item) bool { return b.Seq == x.in }) {
			x.in = gone
		}
	})
	w.blocks = left
	return api.OK
}

// seen is what is to be selected.
func (w *world) seen(m *match.Selector, from, to int64) []api.Series {
	var l []api.Series
	for _, p := range w.series {
		if !p.means(m) {
			continue
		}
		labels, _ := label.From(p.key)
		x := api.Series{Labels: labels}
		for _, k := range p.came {
			if from <= k.t && k.t <= to && k.t >= w.mark && !p.isOut(k.t) {
				x.Samples = append(x.Samples, api.Sample{T: k.t, H: k.h})
			}
		}
		if len(x.Samples) > 0 {
			l = append(l, x)
		}
	}
	return l
}

// in are a series' samples that are somewhere.
func (p *past) in(where int) []api.Sample {
	var l []api.Sample
	for _, k := range p.came {
		if k.in == where {
			l = append(l, api.Sample{T: k.t, H: k.h})
		}
	}
	return l
}

// lines are those of the image; without the heads all that no moving about changes.
func (w *world) lines(heads bool) string {
	s := fmt.Sprintln(w.mark)
	for _, p := range w.series {
		s += lineText(entry.Line{Key: p.key, Last: p.last, Tombs: tomb.Of(p.out...), Head: p.in(inHead)}, heads)
	}
	return s
}

// num puts numbers behind a text, with blanks ahead.
func num(b []byte, l ...int64) []byte {
	for _, n := range l {
		b = strconv.AppendInt(append(b, ' '), n, 10)
	}
	return b
}

// textOf are samples as a text.
func textOf(l []api.Sample) string {
	var b []byte
	for _, x := range l {
		b = num(append(b, '['), x.T, int64(x.H.Kind), int64(x.H.Schema), int64(x.H.ZeroAt), int64(x.H.Zero), int64(x.H.Count), x.H.Sum, int64(len(x.H.Pos)))
		for _, y := range slices.Concat(x.H.Pos, x.H.Neg) {
			b = num(b, int64(y.Index), int64(y.Count))
		}
		b = append(b, ']')
	}
	return string(b)
}

// seriesText are series as a text.
func seriesText(l []api.Series) string {
	s := ""
	for _, x := range l {
		s += label.Print(x.Labels) + textOf(x.Samples) + "\n"
	}
	return s
}

// lineText is a line as a text.
func lineText(x entry.Line, heads bool) string {
	b := num([]byte(strconv.Quote(x.Key)), x.Last)
	for _, r := range x.Tombs.Ranges() {
		b = append(num(b, r.From, r.To), ',')
	}
	if heads {
		b = append(b, textOf(x.Head)...)
	}
	return string(b) + "\n"
}

// linesText are an image's mark and lines.
func linesText(im entry.Image, heads bool) string {
	s := fmt.Sprintln(im.Mark)
	for _, x := range im.Lines {
		s += lineText(x, heads)
	}
	return s
}

// imageText is all of an image.
func imageText(im entry.Image) string { return linesText(im, true) + fmt.Sprint(im.Blocks) }

// blockText is a block as a text.
func blockText(b block.Block) string {
	s := string(num(nil, b.Low, b.High, int64(b.Level)))
	for _, r := range b.Rows {
		s += " " + strconv.Quote(r.Key) + textOf(r.Samples)
	}
	return s
}

// blockTexts are the world's blocks, sorted.
func (w *world) blockTexts() []string {
	var l []string
	for _, x := range w.blocks {
		b := block.Block{Meta: x.Meta}
		for _, p := range w.series {
			if its := p.in(x.Seq); len(its) > 0 {
				b.Rows = append(b.Rows, block.Row{Key: p.key, Samples: its})
			}
		}
		l = append(l, blockText(b))
	}
	slices.Sort(l)
	return l
}

// Disks and files.

// roomyDisk is one with as much room as may be.
func roomyDisk() *disk.Disk {
	d, _ := disk.New(api.MaxDisk)
	return d
}

// put lays a file's bytes, and makes all sure.
func put(t *testing.T, d *disk.Disk, name string, b []byte) {
	t.Helper()
	if d.Append(name, b) != api.OK || d.Sync(name) != api.OK || d.SyncNames() != api.OK {
		t.Fatalf("%s can't be laid", name)
	}
}

// filled is a disk with these files, all of them sure.
func filled(t *testing.T, files map[string][]byte) *disk.Disk {
	t.Helper()
	d := roomyDisk()
	for name, b := range files {
		put(t, d, name, b)
	}
	return d
}

// filesOf are a disk's files, with all their bytes.
func filesOf(d *disk.Disk) map[string][]byte {
	l := map[string][]byte{}
	for _, name := range d.Names() {
		l[name], _ = d.Read(name)
	}
	return l
}

// diskText is all that a disk has, now, and if its power went now.
func diskText(d *disk.Disk) string {
	return filesText(filesOf(d)) + filesText(filesOf(d.Crash(nil, nil)))
}

// filesText are files as a text.
func filesText(files map[string][]byte) string {
	s := ""
	for _, name := range slices.Sorted(maps.Keys(files)) {
		s += strconv.Quote(name) + strconv.Quote(string(files[name])) + "\n"
	}
	return s
}

// sixDigits are what stands behind log- and blk-; by their order as texts no number is above the greatest one.
var sixDigits = regexp.MustCompile(`^[0-9]{6}$`)

// numbered says whether a name is one of a log, or of a block.
func numbered(of, name string) bool {
	rest, is := strings.CutPrefix(name, of)
	return is && sixDigits.MatchString(rest) && rest <= "065536"
}

// logs are the names of a disk's logs.
func logs(d *disk.Disk) []string {
	return slices.DeleteFunc(d.Names(), func(s string) bool { return !numbered("log-", s) })
}

// blockFile is what a block's file is called.
func blockFile(n int) string { return fmt.Sprintf("blk-%06d", n) }

func logFile(n int) string { return fmt.Sprintf("log-%06d", n) }

// logOf are the bytes of a log: an image, and changes.
func logOf(t *testing.T, im entry.Image, l ...entry.Change) []byte {
	t.Helper()
	b, e := entry.Store(im)
	if e != api.OK {
		t.Fatalf("the image may not be: %v", im)
	}
	all := sum.Seal(b)
	for _, c := range l {
		b, e := entry.Encode(c)
		if e != api.OK {
			t.Fatalf("the change may not be: %v", c)
		}
		all = append(all, sum.Seal(b)...)
	}
	return all
}

// blockOf are the bytes of a block.
func blockOf(t *testing.T, level int, low int64, rows ...block.Row) []byte {
	t.Helper()
	b, e := block.Encode(block.Block{Meta: block.Meta{Low: low, High: low + 64<<(2*level), Level: level}, Rows: rows})
	if e != api.OK {
		t.Fatalf("the block may not be: %v, %d", rows, e)
	}
	return b
}

// Looks at a store.

// open is the store of a disk that has one.
func open(t *testing.T, d *disk.Disk) *Store {
	t.Helper()
	s, name, e := Open(d)
	if s == nil || name != "" || e != api.OK {
		t.Fatalf("the disk with %v isn't opened: %q, %d", d.Names(), name, e)
	}
	return s
}

// sel is a selector of a text.
func sel(s string) *match.Selector {
	m, e := match.Parse(s)
	if e != api.OK {
		panic(s)
	}
	return m
}

// all means all series.
var all = sel("{}")

// selectors are some.
var selectors = []*match.Selector{all, sel(`{a="x"}`), sel(`{a=""}`), sel(`{a!="x"}`), sel(`{b=~"1|2"}`), sel(`{a="none"}`), sel(`{a="x",b!~"2.*"}`)}

// checkWindow holds what a store selects from one time to another one against the world.
func checkWindow(t *testing.T, what string, s *Store, w *world, m *match.Selector, from, to int64) {
	t.Helper()
	got, want := seriesText(s.Select(m, from, to)), seriesText(w.seen(m, from, to))
	if got != want {
		t.Fatalf("%s: of %s from %d to %d are selected\n%s, not\n%s", what, m.Print(), from, to, got, want)
	}
}

// checkSeen holds what a store selects against the world.
func checkSeen(t *testing.T, what string, s *Store, w *world) {
	t.Helper()
	windows := [][2]int64{{0, end}, {-1 << 63, 1<<63 - 1}, {5, 4}, {w.mark - 1, w.mark}, {w.mark, w.mark}, {64, 127}, {0, 63}, {1 << 62, 1<<63 - 1}, {-1 << 63, -1}}
	for _, p := range w.series {
		windows = append(windows, [2]int64{p.last, p.last}, [2]int64{0, p.last - 1})
	}
	for _, x := range windows {
		checkWindow(t, what, s, w, all, x[0], x[1])
	}
	for _, m := range selectors {
		checkWindow(t, what, s, w, m, 0, end)
		checkWindow(t, what, s, w, m, 64, w.late()/2)
	}
	if got := s.Select(nil, 0, end); len(got) > 0 {
		t.Fatalf("%s: of no selector are selected %v", what, got)
	}
}

// checkStore holds all that a store tells, and what is on its disk, against the world.
func checkStore(t *testing.T, what string, s *Store, d *disk.Disk, w *world) {
	t.Helper()
	checkSeen(t, what, s, w)
	if got, want := linesText(s.Image(), true), w.lines(true); got != want {
		t.Fatalf("%s: the image has\n%snot\n%s", what, got, want)
	}
	checkDisk(t, what, s, d)
	var texts []string
	for _, x := range s.Blocks() {
		b, _ := d.Read(blockFile(x.Seq))
		its, _ := block.Decode(b)
		texts = append(texts, blockText(its))
	}
	slices.Sort(texts)
	if want := w.blockTexts(); !slices.Equal(texts, want) {
		t.Fatalf("%s: there are the blocks\n%v, not\n%v", what, texts, want)
	}
}

// checkDisk looks whether what a store tells goes together, and whether it is just that which is on its disk, and sure; files of other names are passed over.
func checkDisk(t *testing.T, what string, s *Store, d *disk.Disk) {
	t.Helper()
	im := s.Image()
	if !entry.Sound(im) {
		t.Fatalf("%s: the image may not be: %v", what, im)
	}
	var seqs []int
	var want []string
	for _, x := range s.Blocks() {
		seqs = append(seqs, x.Seq)
		want = append(want, blockFile(x.Seq))
		b, _ := d.Read(blockFile(x.Seq))
		if its, e := block.Decode(b); e != api.OK || its.Meta != x.Meta {
			t.Fatalf("%s: the block %v is %v, %d", what, x, its, e)
		}
	}
	if !slices.Equal(seqs, im.Blocks) {
		t.Fatalf("%s: the blocks are %v, but the image has %v", what, seqs, im.Blocks)
	}
	step, is := s.Plan()
	if x, y := plan.Next(s.Blocks()); fmt.Sprint(step, is) != fmt.Sprint(x, y) {
		t.Fatalf("%s: the next step is %v, %t, not %v, %t", what, step, is, x, y)
	}
	checkFiles(t, what, im, want, d)
	if sure := d.Crash(nil, nil); !maps.EqualFunc(ours(sure, want), ours(d, want), bytes.Equal) {
		t.Fatalf("%s: not all that counts is sure", what)
	}
}

// ours are a disk's files that count: these, and the greatest log.
func ours(d *disk.Disk, names []string) map[string][]byte {
	l := map[string][]byte{}
	if all := logs(d); len(all) > 0 {
		names = append(slices.Clone(names), all[len(all)-1])
	}
	for _, name := range names {
		l[name], _ = d.Read(name)
	}
	return l
}

// checkFiles looks whether a disk has just these blocks and one log that tells the image.
func checkFiles(t *testing.T, what string, im entry.Image, blocks []string, d *disk.Disk) {
	t.Helper()
	var got []string
	log := ""
	for _, name := range d.Names() {
		switch {
		case numbered("log-", name):
			if log != "" {
				t.Fatalf("%s: there are two logs: %v", what, d.Names())
			}
			log = name
		case numbered("blk-", name):
			got = append(got, name)
		case name == "new":
			t.Fatalf("%s: there is %s", what, name)
		}
	}
	if !slices.Equal(got, blocks) {
		t.Fatalf("%s: there are the files %v, not %v", what, got, blocks)
	}
	b, _ := d.Read(log)
	texts, _, e := sum.All(b)
	if e != api.OK || len(texts) == 0 {
		t.Fatalf("%s: the log %s has %d texts, %d", what, log, len(texts), e)
	}
	told, e := entry.Load(texts[0])
	for _, text := range texts[1:] {
		c, wrong := entry.Decode(text)
		if wrong != api.OK || e != api.OK {
			t.Fatalf("%s: the log has what is none, or can't be: %d, %d", what, wrong, e)
		}
		told, e = Apply(told, c)
	}
	if e != api.OK || imageText(told) != imageText(im) {
		t.Fatalf("%s: the log tells\n%s, %d, not\n%s", what, imageText(told), e, imageText(im))
	}
}

// Samples.

// labels are those of a text.
func labels(s string) []api.Label {
	l, e := label.Parse(s)
	if e != api.OK {
		panic(s)
	}
	return l
}

// key is that of a text of labels.
func key(s string) string { return label.Key(labels(s)) }

// counted is a histogram with a Count that is right.
func counted(h api.Hist) api.Hist {
	h.Count = h.Zero
	for _, b := range slices.Concat(h.Pos, h.Neg) {
		h.Count += b.Count
	}
	return h
}

// told is a histogram by which one sample is known from another one.
func told(n int64) api.Hist {
	return counted(api.Hist{Kind: int(n>>3) & 1, ZeroAt: api.NoZero, Zero: uint64(n), Sum: -n, Pos: []api.Bucket{{Index: int(n % 7), Count: uint64(n%11) + 1}}})
}

// at are items of one series at these times.
func at(text string, times ...int64) []Item {
	var l []Item
	for _, t := range times {
		l = append(l, Item{Labels: labels(text), T: t, H: told(t)})
	}
	return l
}

// samplesAt are samples at these times.
func samplesAt(times ...int64) []api.Sample {
	var l []api.Sample
	for _, t := range times {
		l = append(l, api.Sample{T: t, H: told(t)})
	}
	return l
}

// Deeds.

// deed is something done to a store, and to the world.
type deed struct {
	what string
	do   func(*Store) api.Errno
	in   func(*world) api.Errno
}

func add(l ...Item) deed {
	what := "Append"
	for _, x := range l {
		what += fmt.Sprintf(" %s at %d", label.Print(x.Labels), x.T)
	}
	return deed{what, func(s *Store) api.Errno { return s.Append(l...) }, func(w *world) api.Errno { return w.append(l...) }}
}

func del(m *match.Selector, from, to int64) deed {
	return deed{fmt.Sprint("Delete ", m.Print(), from, to), func(s *Store) api.Errno { return s.Delete(m, from, to) }, func(w *world) api.Errno { return w.delete(m, from, to) }}
}

func retainAt(mark int64) deed {
	return deed{fmt.Sprint("Retain ", mark), func(s *Store) api.Errno { return s.Retain(mark) }, func(w *world) api.Errno { return w.retain(mark) }}
}

func cutAt(t int64) deed {
	return deed{fmt.Sprint("Cut ", t), func(s *Store) api.Errno { return s.Cut(t) }, func(w *world) api.Errno { return w.cut(t) }}
}

func compact() deed {
	return deed{"Compact", func(s *Store) api.Errno { return s.Compact() }, func(w *world) api.Errno { return w.compact() }}
}

func drop() deed {
	return deed{"Drop", func(s *Store) api.Errno { return s.Drop() }, func(w *world) api.Errno { return w.drop() }}
}

func checkpoint() deed {
	return deed{"Checkpoint", func(s *Store) api.Errno { return s.Checkpoint() }, func(w *world) api.Errno { return api.OK }}
}

// does does a deed to both, and looks whether all goes as it should.
func does(t *testing.T, s *Store, d *disk.Disk, w *world, l ...deed) {
	t.Helper()
	for _, x := range l {
		want := x.in(w)
		if got := x.do(s); got != want {
			t.Fatalf("%s answers %d, not %d", x.what, got, want)
		}
		checkStore(t, "behind "+x.what, s, d, w)
	}
}
