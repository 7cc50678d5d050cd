package store

import (
	"fmt"
	"math/rand/v2"
	"pluvial/api"
	"pluvial/entry"
	"pluvial/tomb"
	"slices"
	"testing"
)

// P18.3

// batch, cuts and mark are changes.
func batch(l ...entry.Item) entry.Change { return entry.Change{Kind: entry.Batch, Items: l} }

func cuts(l ...entry.Cut) entry.Change { return entry.Change{Kind: entry.Delete, Cuts: l} }

func mark(t int64) entry.Change { return entry.Change{Kind: entry.Retain, Mark: t} }

// item and cut are parts of them.
func item(text string, t int64) entry.Item { return entry.Item{Key: key(text), T: t, H: told(t)} }

func cut(text string, from, to int64) entry.Cut {
	return entry.Cut{Key: key(text), Range: tomb.Range{From: from, To: to}}
}

// line is one of an image.
func line(text string, last int64, tombs []tomb.Range, head ...int64) entry.Line {
	return entry.Line{Key: key(text), Last: last, Tombs: tomb.Of(tombs...), Head: samplesAt(head...)}
}

// someRanges are ranges by pairs.
func someRanges(pairs ...int64) []tomb.Range {
	var l []tomb.Range
	for i := 0; i < len(pairs); i += 2 {
		l = append(l, tomb.Range{From: pairs[i], To: pairs[i+1]})
	}
	return l
}

// checkApply looks whether an image behind a change is another one, or stays as it is with an error.
func checkApply(t *testing.T, what string, im entry.Image, c entry.Change, want entry.Image, e api.Errno) {
	t.Helper()
	was, its := imageText(im), fmt.Sprint(c)
	got, wrong := Apply(im, c)
	if wrong != e || imageText(got) != imageText(want) {
		t.Errorf("%s: there is %d,\n%s, not %d,\n%s", what, wrong, imageText(got), e, imageText(want))
	}
	if !entry.Sound(got) {
		t.Errorf("%s: the image behind it may not be", what)
	}
	if imageText(im) != was || fmt.Sprint(c) != its {
		t.Errorf("%s: what was handed in is changed", what)
	}
}

// image1 has three lines.
func image1() entry.Image {
	return entry.Image{Mark: 10, Blocks: []int{3, 5}, Lines: []entry.Line{line(`{}`, 30, someRanges(12, 14), 11, 20), line(`{a="x"}`, 5, nil), line(`{a="y"}`, end, someRanges(0, 40, 50, 60), 41, end)}}
}

// with is image1 with its lines, or its mark, changed.
func with(change func(m *entry.Image)) entry.Image {
	m := image1()
	change(&m)
	return m
}

func TestApplyBatches(t *testing.T) {
	im := image1()
	for what, x := range map[string]struct {
		c    entry.Change
		want entry.Image
	}{
		"behind the last time": {batch(item(`{}`, 31)), with(func(m *entry.Image) { m.Lines[0] = line(`{}`, 31, someRanges(12, 14), 11, 20, 31) })},
		"below the mark":       {batch(item(`{a="x"}`, 9)), with(func(m *entry.Image) { m.Lines[1].Last = 9 })},
		"at the mark":          {batch(item(`{a="x"}`, 10)), with(func(m *entry.Image) { m.Lines[1] = line(`{a="x"}`, 10, nil, 10) })},
		"two, and one below": {batch(item(`{a="x"}`, 6), item(`{}`, end), item(`{a="x"}`, 10)), with(func(m *entry.Image) {
			m.Lines[0], m.Lines[1] = line(`{}`, end, someRanges(12, 14), 11, 20, end), line(`{a="x"}`, 10, nil, 10)
		})},
		"a new one": {batch(item(`{a="xy"}`, 0)), with(func(m *entry.Image) { m.Lines = slices.Insert(m.Lines, 3, line(`{a="xy"}`, 0, nil)) })},
		"new ones": {batch(item(`{b="x"}`, 10), item(`{a="a"}`, end), item(`{b="x"}`, 11)), with(func(m *entry.Image) {
			m.Lines = slices.Concat(m.Lines[:1], []entry.Line{line(`{a="a"}`, end, nil, end)}, m.Lines[1:], []entry.Line{line(`{b="x"}`, 11, nil, 10, 11)})
		})},
	} {
		checkApply(t, what, im, x.c, x.want, api.OK)
	}
	checkApply(t, "the first one", entry.Image{}, batch(item(`{a="x"}`, 0)), entry.Image{Lines: []entry.Line{line(`{a="x"}`, 0, nil, 0)}}, api.OK)
	for what, l := range map[string][]entry.Item{
		"an elder time": {item(`{}`, 29)}, "the last time": {item(`{}`, 30)}, "the greatest time": {item(`{a="y"}`, end)}, "twice": {item(`{}`, 31), item(`{}`, 31)}, "a new one twice": {item(`{c="x"}`, 5), item(`{c="x"}`, 5)},
		"falling": {item(`{}`, 32), item(`{}`, 31)}, "behind others": {item(`{}`, 32), item(`{a="x"}`, 12), item(`{c="x"}`, 5), item(`{a="x"}`, 12)}, "of an empty head": {item(`{a="x"}`, 5)},
	} {
		checkApply(t, what, im, batch(l...), im, api.ErrOrder)
	}
}

// TestApplyHidden tells of a head that lies below the mark, as an image may have it: only a mark takes it out.
func TestApplyHidden(t *testing.T) {
	below := entry.Image{Mark: 10, Lines: []entry.Line{line(`{}`, 30, nil, 5, 9, 10), line(`{a="x"}`, 7, nil, 6)}}
	checkApply(t, "a batch", below, batch(item(`{}`, 31)), entry.Image{Mark: 10, Lines: []entry.Line{line(`{}`, 31, nil, 5, 9, 10, 31), below.Lines[1]}}, api.OK)
	checkApply(t, "a cut", below, cuts(cut(`{}`, 9, 9)), entry.Image{Mark: 10, Lines: []entry.Line{line(`{}`, 30, someRanges(9, 9), 5, 10), below.Lines[1]}}, api.OK)
	checkApply(t, "no cuts", below, cuts(), below, api.OK)
	checkApply(t, "a lower mark", below, mark(3), entry.Image{Mark: 10, Lines: []entry.Line{line(`{}`, 30, nil, 10), line(`{a="x"}`, 7, nil)}}, api.OK)
}

// TestApplyMostRanges tells of as many ranges as an image may have; of more the document tells nothing, and here that can't be.
func TestApplyMostRanges(t *testing.T) {
	var l []tomb.Range
	for i := range int64(65535) {
		l = append(l, tomb.Range{From: 2 * i, To: 2 * i})
	}
	im := entry.Image{Lines: []entry.Line{line(`{}`, 200000, l, 150000)}}
	last := tomb.Range{From: 150000, To: 150000}
	most := entry.Image{Lines: []entry.Line{line(`{}`, 200000, append(l, last))}}
	checkApply(t, "the 65536th range", im, cuts(cut(`{}`, 150000, 150000)), most, api.OK)
	checkApply(t, "the 65537th range", most, cuts(cut(`{}`, 160000, 160000)), most, api.ErrLimit)
	checkApply(t, "less of them", most, cuts(cut(`{}`, 0, 149999)), entry.Image{Lines: []entry.Line{line(`{}`, 200000, someRanges(0, 150000))}}, api.OK)
}

func TestApplyMostSeries(t *testing.T) {
	var im entry.Image
	for i := range 64 {
		im.Lines = append(im.Lines, line(fmt.Sprintf(`{a="%d"}`, 1000+i), 7, nil))
	}
	less := im
	less.Lines = im.Lines[:63]
	checkApply(t, "the 64th", less, batch(item(`{a="1063"}`, 7)), entry.Image{Lines: append(slices.Clone(less.Lines), line(`{a="1063"}`, 7, nil, 7))}, api.OK)
	checkApply(t, "the 65th", im, batch(item(`{}`, 7)), im, api.ErrSeries)
	checkApply(t, "the 64th, and the 65th", less, batch(item(`{b="x"}`, 7), item(`{c="x"}`, 7)), less, api.ErrSeries)
	checkApply(t, "the 64th, and one of the 63", less, batch(item(`{b="x"}`, 7), item(`{a="1000"}`, 8)), func() entry.Image {
		l := append(slices.Clone(less.Lines), line(`{b="x"}`, 7, nil, 7))
		l[0] = line(`{a="1000"}`, 8, nil, 8)
		return entry.Image{Lines: l}
	}(), api.OK)
	checkApply(t, "an elder time, and the 65th", im, batch(item(`{a="1003"}`, 7), item(`{}`, 7)), im, api.ErrOrder)
	checkApply(t, "the 65th, and an elder time", im, batch(item(`{}`, 7), item(`{a="1003"}`, 7)), im, api.ErrSeries)
}

func TestApplyCuts(t *testing.T) {
	im := image1()
	for what, x := range map[string]struct {
		c    entry.Change
		want entry.Image
	}{
		"none":                  {cuts(), im},
		"of the head":           {cuts(cut(`{}`, 20, 20)), with(func(m *entry.Image) { m.Lines[0] = line(`{}`, 30, someRanges(12, 14, 20, 20), 11) })},
		"between":               {cuts(cut(`{}`, 16, 19)), with(func(m *entry.Image) { m.Lines[0] = line(`{}`, 30, someRanges(12, 14, 16, 19), 11, 20) })},
		"that touches":          {cuts(cut(`{}`, 15, 19)), with(func(m *entry.Image) { m.Lines[0] = line(`{}`, 30, someRanges(12, 19), 11, 20) })},
		"behind the last time":  {cuts(cut(`{}`, 20, end)), with(func(m *entry.Image) { m.Lines[0] = line(`{}`, 30, someRanges(12, 14, 20, 30), 11) })},
		"from the last time on": {cuts(cut(`{}`, 30, end)), with(func(m *entry.Image) { m.Lines[0] = line(`{}`, 30, someRanges(12, 14, 30, 30), 11, 20) })},
		"at the greatest time":  {cuts(cut(`{a="y"}`, end, end)), with(func(m *entry.Image) { m.Lines[2] = line(`{a="y"}`, end, someRanges(0, 40, 50, 60, end, end), 41) })},
		"below the mark":        {cuts(cut(`{a="x"}`, 0, 3)), with(func(m *entry.Image) { m.Lines[1] = line(`{a="x"}`, 5, someRanges(0, 3)) })},
		"of all": {cuts(cut(`{}`, 0, end), cut(`{a="x"}`, 5, end), cut(`{a="y"}`, 0, end)), with(func(m *entry.Image) {
			m.Lines = []entry.Line{line(`{}`, 30, someRanges(0, 30)), line(`{a="x"}`, 5, someRanges(5, 5)), line(`{a="y"}`, end, someRanges(0, end))}
		})},
	} {
		checkApply(t, what, im, x.c, x.want, api.OK)
	}
	for what, l := range map[string][]entry.Cut{
		"no such line": {cut(`{a="z"}`, 0, 5)}, "just behind the last time": {cut(`{}`, 31, 31)}, "one of two": {cut(`{}`, 20, 20), cut(`{a="x"}`, 6, 6)}, "the first one": {cut(`{a="a"}`, 1, 1), cut(`{a="x"}`, 5, 5)}, "between keys": {cut(`{a="x"}`, 5, 5), cut(`{a="xy"}`, 0, end)},
	} {
		checkApply(t, what, im, cuts(l...), im, api.ErrNone)
	}
	checkApply(t, "of no lines", entry.Image{}, cuts(cut(`{}`, 0, 5)), entry.Image{}, api.ErrNone)
}

func TestApplyMarks(t *testing.T) {
	im := image1()
	for at, want := range map[int64]entry.Image{
		0: im, 9: im, 10: im,
		11: with(func(m *entry.Image) { m.Mark = 11 }),
		12: with(func(m *entry.Image) { m.Mark = 12; m.Lines[0] = line(`{}`, 30, someRanges(12, 14), 20) }),
		20: with(func(m *entry.Image) { m.Mark = 20; m.Lines[0] = line(`{}`, 30, someRanges(12, 14), 20) }),
		41: with(func(m *entry.Image) { m.Mark = 41; m.Lines[0] = line(`{}`, 30, someRanges(12, 14)) }),
		end: with(func(m *entry.Image) {
			m.Mark = end
			m.Lines[0] = line(`{}`, 30, someRanges(12, 14))
			m.Lines[2] = line(`{a="y"}`, end, someRanges(0, 40, 50, 60), end)
		}),
	} {
		checkApply(t, fmt.Sprint("the mark ", at), im, mark(at), want, api.OK)
	}
}

// TestApplyWrong tells of changes that may not be, whatever else is wrong with them there.
func TestApplyWrong(t *testing.T) {
	im := image1()
	hist := item(`{}`, 30)
	hist.H.Count++
	for what, c := range map[string]entry.Change{
		"nothing": {}, "a kind": {Kind: 4}, "a kind below": {Kind: -1}, "a batch of none": batch(), "a batch of 65": batch(make([]entry.Item, 65)...), "a wrong key": batch(entry.Item{Key: "a", T: 31, H: told(1)}),
		"a time": batch(item(`{}`, -1)), "a greater time": batch(item(`{}`, end+1)), "a histogram": batch(hist), "one of several": batch(item(`{}`, 5), hist), "a batch with a mark": {Kind: entry.Batch, Items: []entry.Item{item(`{}`, 31)}, Mark: 1},
		"cuts that fall": cuts(cut(`{a="z"}`, 0, 5), cut(`{}`, 0, 5)), "a range": cuts(cut(`{}`, 5, 4)), "cuts in a mark": {Kind: entry.Retain, Cuts: []entry.Cut{cut(`{}`, 0, 1)}}, "a mark": mark(-1), "a greater mark": mark(end + 1),
	} {
		checkApply(t, what, im, c, im, api.ErrForm)
		checkApply(t, what, entry.Image{}, c, entry.Image{}, api.ErrForm)
	}
}

// picture is an image of small times, time by time.
type picture struct {
	mark  int64
	lines map[string]*lane
}

type lane struct {
	last int64
	out  map[int64]bool
	head map[int64]api.Hist
}

// wide is how many times a picture has.
const wide = 24

// pictureOf is the picture of an image.
func pictureOf(im entry.Image) picture {
	p := picture{mark: im.Mark, lines: map[string]*lane{}}
	for _, x := range im.Lines {
		l := &lane{last: x.Last, out: map[int64]bool{}, head: map[int64]api.Hist{}}
		for at := range int64(wide) {
			l.out[at] = x.Tombs.Has(at)
		}
		for _, s := range x.Head {
			l.head[s.T] = s.H
		}
		p.lines[x.Key] = l
	}
	return p
}

// behind is what the chapter says of a change that may be.
func (p picture) behind(c entry.Change) api.Errno {
	for _, x := range c.Items {
		l := p.lines[x.Key]
		if l == nil && len(p.lines) == 64 {
			return api.ErrSeries
		}
		if l != nil && x.T <= l.last {
			return api.ErrOrder
		}
		if l == nil {
			l = &lane{out: map[int64]bool{}, head: map[int64]api.Hist{}}
			p.lines[x.Key] = l
		}
		l.last = x.T
		if x.T >= p.mark {
			l.head[x.T] = x.H
		}
	}
	for _, x := range c.Cuts {
		l := p.lines[x.Key]
		if l == nil || x.From > l.last {
			return api.ErrNone
		}
		for at := x.From; at <= min(x.To, l.last); at++ {
			l.out[at] = true
			delete(l.head, at)
		}
	}
	if c.Kind == entry.Retain {
		p.mark = max(p.mark, c.Mark)
	}
	return api.OK
}

// text is a picture as the text of its image's lines.
func (p picture) text(c entry.Change) string {
	im := entry.Image{Mark: p.mark}
	for k, l := range p.lines {
		x := entry.Line{Key: k, Last: l.last}
		for at := range int64(wide) {
			if l.out[at] {
				x.Tombs = x.Tombs.And(tomb.Of(tomb.Range{From: at, To: at}))
			}
			h, is := l.head[at]
			if is && (c.Kind != entry.Retain || at >= max(p.mark, c.Mark)) {
				x.Head = append(x.Head, api.Sample{T: at, H: h})
			}
		}
		im.Lines = append(im.Lines, x)
	}
	if c.Kind == entry.Retain {
		im.Mark = max(im.Mark, c.Mark)
	}
	slices.SortFunc(im.Lines, func(a, b entry.Line) int {
		if a.Key < b.Key {
			return -1
		}
		return 1
	})
	return imageText(im)
}

// drawChange is a change that may be, of small times.
func drawChange(r *rand.Rand) entry.Change {
	time := func() int64 { return r.Int64N(wide) }
	switch r.IntN(8) {
	case 0:
		return mark(time())
	case 1, 2:
		c := cuts()
		for _, text := range lines5[:3] {
			if from := time(); r.IntN(3) > 0 {
				c.Cuts = append(c.Cuts, cut(text, from, from+r.Int64N(wide-from)))
			}
		}
		return c
	}
	c := batch()
	for range 1 + r.IntN(4) {
		x := item(lines5[r.IntN(3)], time())
		x.H = drawHist(r)
		c.Items = append(c.Items, x)
	}
	return c
}

func TestApplyDrawn(t *testing.T) {
	done, refused := 0, 0
	for n := range uint64(4000) {
		r := rand.New(rand.NewPCG(1307, n))
		var im entry.Image
		for range 20 {
			c := drawChange(r)
			p := pictureOf(im)
			e := p.behind(c)
			if e != api.OK {
				checkApply(t, "drawn", im, c, im, e)
				refused++
				continue
			}
			got, wrong := Apply(im, c)
			if wrong != api.OK || imageText(got) != p.text(c) {
				t.Fatalf("behind %v there is %d,\n%s, not\n%s", c, wrong, imageText(got), p.text(c))
			}
			done++
			im = got
		}
	}
	if done < 10000 || refused < 10000 {
		t.Errorf("%d were done, %d refused", done, refused)
	}
}

// TestApplyOwnMemory tells that an image handed in, an image handed out, and a change share nothing.
func TestApplyOwnMemory(t *testing.T) {
	roomy := func() entry.Image {
		im := image1()
		for i, x := range im.Lines {
			im.Lines[i].Head = append(make([]api.Sample, 0, 9), x.Head...)
		}
		im.Lines = append(make([]entry.Line, 0, 9), im.Lines...)
		im.Blocks = append(make([]int, 0, 9), im.Blocks...)
		return im
	}
	whole := func(im entry.Image) string {
		all := im
		all.Lines = slices.Clone(im.Lines[:cap(im.Lines)])
		all.Blocks = im.Blocks[:cap(im.Blocks)]
		for i, x := range all.Lines {
			all.Lines[i].Head = x.Head[:cap(x.Head)]
		}
		return imageText(all)
	}
	ruin := func(im entry.Image) {
		for _, x := range im.Lines {
			spoilSamples(x.Head)
		}
		spoil(im.Lines)
		spoil(im.Blocks)
	}
	for what, make := range map[string]func() entry.Change{
		"a batch": func() entry.Change {
			return batch(item(`{}`, 31), item(`{a="x"}`, 50), item(`{c="x"}`, 50), item(`{a="x"}`, 51))
		},
		"cuts": func() entry.Change { return cuts(cut(`{}`, 20, 21), cut(`{a="y"}`, 42, 43)) }, "a mark": func() entry.Change { return mark(15) },
		"a batch that can't be": func() entry.Change { return batch(item(`{}`, 31), item(`{c="x"}`, 5), item(`{}`, 31)) }, "cuts that can't be": func() entry.Change { return cuts(cut(`{}`, 20, 20), cut(`{d="x"}`, 0, 0)) }, "none": func() entry.Change { return entry.Change{} },
	} {
		im, c := roomy(), make()
		was := whole(im)
		got, _ := Apply(im, c)
		text := imageText(got)
		if whole(im) != was || fmt.Sprint(c) != fmt.Sprint(make()) {
			t.Errorf("%s: what was handed in is changed", what)
		}
		again, _ := Apply(im, c)
		ruin(again)
		if whole(im) != was {
			t.Errorf("%s: what was handed in is spoiled", what)
		}
		ruin(im)
		for _, x := range c.Items {
			spoil(x.H.Pos)
		}
		spoil(c.Items)
		spoil(c.Cuts)
		if imageText(got) != text {
			t.Errorf("%s: what was handed out is spoiled", what)
		}
		// Of two images made of one, each stays as it is.
		first, _ := Apply(got, batch(item(`{a="y2"}`, 60), item(`{e="x"}`, 60)))
		text = imageText(first)
		second, _ := Apply(got, batch(item(`{a="y2"}`, 61), item(`{f="x"}`, 61)))
		if imageText(first) != text || imageText(second) == text {
			t.Errorf("%s: of two images the first one is now\n%s", what, imageText(first))
		}
	}
}
