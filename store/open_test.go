package store

import (
	"fmt"
	"math/rand/v2"
	"pluvial/api"
	"pluvial/block"
	"pluvial/disk"
	"pluvial/entry"
	"pluvial/sum"
	"pluvial/tomb"
	"slices"
	"strings"
	"testing"
)

// strangers are names that no one knows.
var strangers = []string{
	"log-", "blk-", "log", "log-0", "log-00001", "log-0000001", "log-065537", "log-999999", "log-+00001", "log--00001", "log- 00001", "log-00000a", "log-0x0001", "LOG-000001", "log_000001", " log-000001", "log-000001 ",
	"blk-00001", "blk-0000001", "blk-065537", "blk-+00001", "blk--00001", "blk-00000a", "blk-1_0000", "BLK-000001", "blk-log-000001", "log-blk-000001", "newer", "New", "new ", "ne", "old", "000001", "log-٠٠٠", "x",
}

// told3 are an image, and changes that can be.
func told3() (entry.Image, []entry.Change) {
	x, y := key(`{a="x"}`), key(`{a="y"}`)
	im := entry.Image{Mark: 3, Blocks: []int{4, 9}, Lines: []entry.Line{{Key: x, Last: 130, Tombs: tomb.Of(tomb.Range{From: 6, To: 7}), Head: samplesAt(128, 130)}, {Key: y, Last: 5}}}
	return im, []entry.Change{
		{Kind: entry.Batch, Items: []entry.Item{{Key: x, T: 131, H: told(131)}, {Key: y, T: 7, H: told(7)}}},
		{Kind: entry.Delete, Cuts: []entry.Cut{{Key: x, Range: tomb.Range{From: 64, To: 64}}, {Key: y, Range: tomb.Range{From: 6, To: end}}}},
		{Kind: entry.Batch, Items: []entry.Item{{Key: key(`{}`), T: 0, H: told(0)}}},
		{Kind: entry.Retain, Mark: 5},
	}
}

// blocks3 are that image's blocks.
func blocks3(t *testing.T) map[string][]byte {
	return map[string][]byte{
		blockFile(4): blockOf(t, 0, 0, block.Row{Key: key(`{a="x"}`), Samples: samplesAt(1, 4, 6)}, block.Row{Key: key(`{a="y"}`), Samples: samplesAt(5)}),
		blockFile(9): blockOf(t, 1, 0, block.Row{Key: key(`{a="x"}`), Samples: samplesAt(3, 64, 65)}),
	}
}

// files3 are the files of a store that has befallen so many of the changes.
func files3(t *testing.T, changes int) map[string][]byte {
	im, l := told3()
	files := blocks3(t)
	files["log-000002"] = logOf(t, im, l[:changes]...)
	return files
}

// text3 is what a store tells behind so many of the changes.
func text3(t *testing.T, changes int) string {
	im, l := told3()
	for _, c := range l[:changes] {
		var e api.Errno
		if im, e = Apply(im, c); e != api.OK {
			t.Fatalf("the change %v can't be", c)
		}
	}
	return storeText(im, open(t, filled(t, files3(t, changes))).Select(all, 0, end))
}

// storeText is what is to be asked of a store.
func storeText(im entry.Image, l []api.Series) string { return imageText(im) + seriesText(l) }

func textOfStore(s *Store) string { return storeText(s.Image(), s.Select(all, 0, end)) }

// checkBroken looks whether a disk isn't opened because of that file, and stays as it was.
func checkBroken(t *testing.T, what string, files map[string][]byte, want string) {
	t.Helper()
	d := filled(t, files)
	steps, was := d.Steps(), diskText(d)
	if s, name, e := Open(d); s != nil || name != want || e != api.ErrBroken {
		t.Errorf("%s: the file %q is told, %d, not %q", what, name, e, want)
	}
	if d.Steps() != steps || diskText(d) != was {
		t.Errorf("%s: the disk is changed", what)
	}
}

// P18.1, Open

func TestOpen(t *testing.T) {
	if s, name, e := Open(nil); s != nil || name != "" || e != api.ErrNil {
		t.Errorf("no disk is opened: %q, %d", name, e)
	}
	d := roomyDisk()
	d.Fuse(0)
	d.SyncNames()
	if s, name, e := Open(d); s != nil || name != "" || e != api.ErrDown {
		t.Errorf("a disk without power is opened: %q, %d", name, e)
	}
	d = filled(t, map[string][]byte{"log-000003": []byte("no image")})
	d.Fuse(0)
	d.SyncNames()
	if s, name, e := Open(d); s != nil || name != "" || e != api.ErrDown {
		t.Errorf("a broken disk without power is opened: %q, %d", name, e)
	}
	s, d, w := fresh(t)
	checkStore(t, "a new disk", s, d, w)
	if !slices.Equal(d.Names(), []string{"log-000000"}) || s.ReadOnly() {
		t.Errorf("a new disk has %v", d.Names())
	}
}

// TestStrangers tells of files of other names: none of them counts, or is touched.
func TestStrangers(t *testing.T) {
	for _, files := range []map[string][]byte{{}, files3(t, 4)} {
		for _, name := range strangers {
			files[name] = []byte("strange " + name)
		}
		// One that would count, if its number were told so.
		files["log-0000099"] = logOf(t, entry.Image{Mark: 77})
		d := filled(t, files)
		s := open(t, d)
		mark := int64(5)
		if len(files) < len(strangers)+3 {
			mark = 0
		}
		if s.Image().Mark != mark || s.ReadOnly() {
			t.Errorf("the image is %v", s.Image())
		}
		for _, move := range []func() api.Errno{func() api.Errno { return s.Append(at(`{}`, 1)...) }, func() api.Errno { return s.Cut(end) }, s.Checkpoint, s.Drop} {
			if e := move(); e != api.OK {
				t.Errorf("beside strange files: %d", e)
			}
		}
		s = open(t, lost(d))
		for name, b := range files {
			if _, is := blocks3(t)[name]; is || name == "log-000002" {
				continue
			}
			if got, e := d.Read(name); e != api.OK || string(got) != string(b) {
				t.Errorf("%s is %q, %d", name, got, e)
			}
		}
	}
}

// TestLoose tells of files that don't count: they are gone, whatever they are.
func TestLoose(t *testing.T) {
	files := files3(t, 4)
	for _, name := range []string{"log-000000", "log-000001", "blk-000000", "blk-000003", "blk-000005", "blk-065536", "new"} {
		files[name] = []byte(name)
	}
	d := filled(t, files)
	s := open(t, d)
	if got := textOfStore(s); got != text3(t, 4) {
		t.Errorf("opened is\n%s", got)
	}
	if want := []string{"blk-000004", "blk-000009", "log-000002"}; !slices.Equal(d.Names(), want) {
		t.Errorf("there are the files %v", d.Names())
	}
	checkDisk(t, "behind loose files", s, d)
	// Where there is no log, no block counts.
	delete(files, "log-000000")
	delete(files, "log-000001")
	delete(files, "log-000002")
	d = filled(t, files)
	s = open(t, d)
	checkStore(t, "without a log", s, d, &world{})
	if !slices.Equal(d.Names(), []string{"log-000000"}) {
		t.Errorf("there are the files %v", d.Names())
	}
}

// TestUnsure tells of files that no one made sure: opened, they are.
func TestUnsure(t *testing.T) {
	d := roomyDisk()
	for name, b := range files3(t, 4) {
		d.Append(name, b)
	}
	s := open(t, d)
	if got := textOfStore(open(t, lost(d))); got != text3(t, 4) {
		t.Errorf("behind a loss of power there is\n%s", got)
	}
	if e := s.Append(at(`{}`, 1)...); e != api.OK || len(open(t, lost(d)).Select(sel(`{a=""}`), 1, 1)) > 0 {
		t.Errorf("Append answers %d", e)
	}
	if e := s.Append(at(`{}`, 5)...); e != api.OK || len(open(t, lost(d)).Select(sel(`{a=""}`), 5, 5)) != 1 {
		t.Errorf("Append answers %d", e)
	}
}

// TestTorn tells of logs that end anywhere.
func TestTorn(t *testing.T) {
	im, l := told3()
	whole := logOf(t, im, l...)
	ends := []int{}
	for i := range len(l) + 1 {
		ends = append(ends, len(logOf(t, im, l[:i]...)))
	}
	for long := range len(whole) + 1 {
		files := blocks3(t)
		files["log-000002"] = whole[:long]
		changes := -1
		for i, end := range ends {
			if long >= end {
				changes = i
			}
		}
		if changes < 0 {
			checkBroken(t, fmt.Sprint("a log of ", long, " bytes"), files, "log-000002")
			continue
		}
		d := filled(t, files)
		s := open(t, d)
		if got, want := textOfStore(s), text3(t, changes); got != want {
			t.Errorf("a log of %d bytes tells\n%s, not\n%s", long, got, want)
		}
		want := "log-000003"
		if long == ends[changes] {
			want = "log-000002"
		}
		if all := logs(d); !slices.Equal(all, []string{want}) {
			t.Errorf("of a log of %d bytes there are %v", long, all)
		}
		checkDisk(t, "behind a torn end", s, d)
		if e := s.Append(at(`{a="x"}`, 140)...); e != api.OK {
			t.Errorf("Append answers %d", e)
		}
		checkDisk(t, "behind a torn end", open(t, lost(d)), d)
	}
}

// TestTurned tells of files of which one byte is turned anywhere.
func TestTurned(t *testing.T) {
	right := map[string]bool{}
	for i := range 5 {
		right[text3(t, i)] = true
	}
	im, _ := told3()
	image := len(logOf(t, im))
	for name, b := range files3(t, 4) {
		for at := range b {
			for bit := range 8 {
				files := files3(t, 4)
				files[name][at] ^= 1 << bit
				what := fmt.Sprintf("the byte %d of %s turned by %d", at, name, bit)
				if strings.HasPrefix(name, "blk-") || at < image {
					checkBroken(t, what, files, name)
					continue
				}
				d := filled(t, files)
				s := open(t, d)
				if text := textOfStore(s); !right[text] || text == text3(t, 4) {
					t.Errorf("%s: there is\n%s", what, text)
				}
				checkDisk(t, what, s, d)
			}
		}
	}
	for name, b := range blocks3(t) {
		for long := range b {
			files := files3(t, 4)
			files[name] = b[:long]
			checkBroken(t, fmt.Sprintf("%s of %d bytes", name, long), files, name)
		}
		files := files3(t, 4)
		files[name] = append(files[name], 0)
		checkBroken(t, name+" with a byte more", files, name)
	}
}

// TestWrongLogs tells of logs without an image, and with changes that are none, or can't be.
func TestWrongLogs(t *testing.T) {
	im, l := told3()
	image := logOf(t, im)
	inner, _, _ := sum.Open(image)
	change, _ := entry.Encode(l[0])
	for what, b := range map[string][]byte{
		"an empty log": nil, "no seal": []byte("log"), "a seal of nothing": sum.Seal(nil), "a change ahead": sum.Seal(change), "a change ahead of the image": append(sum.Seal(change), image...),
		"an image without a seal": inner, "an image with a byte more": sum.Seal(append(slices.Clone(inner), 0)), "an image with a byte less": sum.Seal(inner[:len(inner)-1]), "an image sealed twice": sum.Seal(image), "a byte ahead": append([]byte{0}, image...),
	} {
		files := blocks3(t)
		files["log-000002"] = b
		checkBroken(t, what, files, "log-000002")
		files["log-000001"] = image
		checkBroken(t, what+", and a right log ahead", files, "log-000002")
		delete(files, blockFile(4))
		checkBroken(t, what+", and no block", files, "log-000002")
	}
	for what, text := range map[string][]byte{"nothing": nil, "no change": []byte("no change"), "an image": inner, "a change with a byte more": append(slices.Clone(change), 0), "a sealed change": sum.Seal(change)} {
		for place := range len(l) + 1 {
			files := blocks3(t)
			b := logOf(t, im, l[:place]...)
			b = append(b, sum.Seal(text)...)
			for _, c := range l[place:] {
				more, _ := entry.Encode(c)
				b = append(b, sum.Seal(more)...)
			}
			files["log-000002"] = b
			checkBroken(t, what+" for a change", files, "log-000002")
			files["log-000002"] = append(b, 5, 0, 0)
			checkBroken(t, what+" for a change, and a torn end", files, "log-000002")
		}
	}
}

// TestChangesThatCant tells of changes that may be, but not there.
func TestChangesThatCant(t *testing.T) {
	im, l := told3()
	x, y, z := key(`{a="x"}`), key(`{a="y"}`), key(`{a="z"}`)
	batch := func(key string, at int64) entry.Change {
		return entry.Change{Kind: entry.Batch, Items: []entry.Item{{Key: key, T: at, H: told(1)}}}
	}
	cut := func(key string, at int64) entry.Change {
		return entry.Change{Kind: entry.Delete, Cuts: []entry.Cut{{Key: key, Range: tomb.Range{From: at, To: at}}}}
	}
	for what, c := range map[string]entry.Change{
		"an elder time": batch(x, 5), "a time just at the last one": batch(x, 131), "a block's time": batch(y, 5), "a series that isn't": cut(z, 0), "behind the last time": cut(x, 132), "behind the last time of y": cut(y, 8),
	} {
		files := blocks3(t)
		files["log-000002"] = logOf(t, im, append(slices.Clone(l), c)...)
		checkBroken(t, what, files, "log-000002")
		files["log-000002"] = logOf(t, im, append(slices.Clone(l), c, entry.Change{Kind: entry.Retain})...)
		checkBroken(t, what+", and more", files, "log-000002")
	}
	var lines []entry.Line
	for i := range 64 {
		lines = append(lines, entry.Line{Key: key(fmt.Sprintf(`{a="%d"}`, 1000+i))})
	}
	full := entry.Image{Lines: lines}
	checkBroken(t, "a series too many", map[string][]byte{"log-000000": logOf(t, full, batch(x, 5))}, "log-000000")
	d := filled(t, map[string][]byte{"log-000000": logOf(t, full, batch(lines[63].Key, 5), entry.Change{Kind: entry.Delete}, entry.Change{Kind: entry.Retain})})
	checkDisk(t, "64 series", open(t, d), d)
}

// TestWrongBlocks tells of blocks that are none, aren't there, or have rows that can't be; the first one is told.
func TestWrongBlocks(t *testing.T) {
	x, y, z := key(`{a="x"}`), key(`{a="y"}`), key(`{a="z"}`)
	row := func(key string, times ...int64) block.Row { return block.Row{Key: key, Samples: samplesAt(times...)} }
	for what, b := range map[string][]byte{
		"nothing": nil, "no block": []byte("no block"), "a seal of nothing": sum.Seal(nil), "a log": files3(t, 0)["log-000002"],
	} {
		for _, name := range []string{blockFile(4), blockFile(9)} {
			files := files3(t, 4)
			files[name] = b
			checkBroken(t, what, files, name)
		}
	}
	none := files3(t, 4)
	delete(none, blockFile(9))
	checkBroken(t, "a block that isn't there", none, blockFile(9))
	none[blockFile(4)] = []byte("none")
	checkBroken(t, "two that are none", none, blockFile(4))
	for what, rows := range map[string][]block.Row{
		"of no line": {row(z, 4)}, "of no line behind others": {row(x, 5), row(z, 4)}, "of no labels": {row("", 4)},
		"behind the last time": {row(y, 6)}, "behind the last time at its end": {row(x, 5), row(y, 4, 6)},
		"at a time of another block": {row(x, 65)}, "at one of several of another block": {row(x, 2, 3, 5)},
		"at a time of the head": {row(x, 128)}, "at the last time of the head": {row(x, 127, 130)},
	} {
		low := rows[0].Samples[0].T / 64 * 64
		if what == "at the last time of the head" {
			low = 0
		}
		level := 0
		if low == 0 {
			level = 1
		}
		// The block ahead has none of these times, but the one behind may have: there the one behind is told.
		files := files3(t, 4)
		files[blockFile(4)] = blockOf(t, level, low, rows...)
		want := blockFile(4)
		if strings.Contains(what, "another block") {
			want = blockFile(9)
		}
		checkBroken(t, what, files, want)
		im, l := told3()
		files["log-000002"] = logOf(t, im, append(slices.Clone(l), l[0])...)
		checkBroken(t, what+", and a change that can't be", files, want)
		files["log-000002"] = append(logOf(t, im), 1, 2, 3)
		checkBroken(t, what+", and a torn end", files, want)
		delete(files, blockFile(9))
		checkBroken(t, what+", and a block that isn't there", files, blockFile(9))
	}
	// Just at the last time, or at another series' time, it can be; also what is out, or below the mark.
	files := files3(t, 4)
	files[blockFile(4)] = blockOf(t, 0, 0, row(x, 0, 6, 7), row(y, 3, 5))
	if got := len(open(t, filled(t, files)).Select(all, 0, end)); got != 2 {
		t.Errorf("there are %d series", got)
	}
}

// TestHidden tells of an image whose head lies below the mark: it isn't seen, wherever it is moved.
func TestHidden(t *testing.T) {
	im := entry.Image{Mark: 70, Lines: []entry.Line{{Key: key(`{a="x"}`), Last: 90, Head: samplesAt(5, 69, 70, 80)}}}
	d := filled(t, map[string][]byte{"log-000000": logOf(t, im)})
	s := open(t, d)
	want := seriesText([]api.Series{{Labels: labels(`{a="x"}`), Samples: samplesAt(70, 80)}})
	for _, move := range []func() api.Errno{s.Checkpoint, func() api.Errno { return s.Cut(66) }, func() api.Errno { return s.Cut(end) }, s.Drop, s.Compact} {
		if got := seriesText(s.Select(all, 0, end)); got != want {
			t.Errorf("there are %s", got)
		}
		if e := move(); e != api.OK && e != api.ErrNone {
			t.Errorf("a move answers %d", e)
		}
		checkDisk(t, "of hidden samples", s, d)
	}
	if got := seriesText(open(t, d).Select(all, 0, end)); got != want {
		t.Errorf("there are %s", got)
	}
}

// W6: whatever is on a disk.

// drawFile are bytes of any kind under any name.
func drawFile(t *testing.T, r *rand.Rand) (string, []byte) {
	names := append([]string{"new", logFile(r.IntN(4)), logFile(65535 + r.IntN(2)), blockFile(4), blockFile(9), blockFile(r.IntN(12)), blockFile(65536)}, strangers[r.IntN(len(strangers))])
	im, l := told3()
	if r.IntN(2) == 0 {
		im.Blocks = im.Blocks[:r.IntN(2)]
	}
	var b []byte
	switch r.IntN(4) {
	case 0:
		b = blocks3(t)[blockFile(4+5*r.IntN(2))]
	case 1:
		for range r.IntN(30) {
			b = append(b, byte(r.IntN(256)))
		}
		b = sum.Seal(b)
	default:
		b = logOf(t, im)
		for range r.IntN(4) {
			c, _ := entry.Encode(l[r.IntN(len(l))])
			b = append(b, sum.Seal(c)...)
		}
	}
	switch r.IntN(6) {
	case 0:
		b = b[:r.IntN(len(b)+1)]
	case 1:
		b[r.IntN(len(b))] ^= 1 << r.IntN(8)
	}
	return names[r.IntN(len(names))], b
}

func TestAnyDisk(t *testing.T) {
	opened := 0
	for n := range uint64(3000) {
		r := rand.New(rand.NewPCG(1306, n))
		files := map[string][]byte{}
		if r.IntN(2) == 0 {
			files = blocks3(t)
		}
		for range r.IntN(5) {
			name, b := drawFile(t, r)
			files[name] = b
		}
		d := filled(t, files)
		was := diskText(d)
		s, name, e := Open(d)
		if e != api.OK {
			if _, is := files[name]; !is && !strings.HasPrefix(name, "blk-") || e != api.ErrBroken || s != nil || diskText(d) != was {
				t.Fatalf("of %v the file %q is told, %d", d.Names(), name, e)
			}
			continue
		}
		opened++
		if !s.ReadOnly() {
			checkDisk(t, "of any disk", s, d)
		}
		text := textOfStore(s)
		if again := textOfStore(open(t, d)); name != "" || again != text {
			t.Fatalf("opened again it is\n%s, not\n%s", again, text)
		}
		goOn(t, s, d, r)
	}
	if opened < 1000 {
		t.Errorf("only %d could be opened", opened)
	}
}

// goOn does something to a store that was opened of any disk, and looks whether it goes on as it should.
func goOn(t *testing.T, s *Store, d *disk.Disk, r *rand.Rand) {
	t.Helper()
	s = open(t, d)
	seen := seriesText(s.Select(all, 0, end))
	for range 5 {
		switch r.IntN(4) {
		case 0:
			s.Cut(r.Int64N(140))
		case 1:
			s.Compact()
		case 2:
			s.Drop()
		case 3:
			s.Checkpoint()
		}
		if got := seriesText(s.Select(all, 0, end)); got != seen {
			t.Fatalf("moved about there is\n%s, not\n%s", got, seen)
		}
	}
	want := api.OK
	if s.ReadOnly() {
		want = api.ErrRead
	}
	if e := s.Append(at(`{a="new"}`, end)...); e != want {
		t.Fatalf("Append answers %d, not %d", e, want)
	}
	if got, want := seriesText(open(t, lost(d)).Select(all, 0, end)), seriesText(s.Select(all, 0, end)); got != want {
		t.Fatalf("opened again there is\n%s, not\n%s", got, want)
	}
}
