package store

import (
	"pluvial/api"
	"pluvial/entry"
	"pluvial/hist"
	"pluvial/tomb"
	"slices"
	"sort"
)

// Apply is an image behind a change; it stays as it is, if that can't be.
func Apply(im entry.Image, c entry.Change) (entry.Image, api.Errno) {
	im = copied(im)
	if !entry.Right(c) {
		return im, api.ErrForm
	}
	return behind(im, c)
}

// copied is the same image, for itself.
func copied(im entry.Image) entry.Image {
	im.Blocks = slices.Clone(im.Blocks)
	im.Lines = slices.Clone(im.Lines)
	for i, x := range im.Lines {
		im.Lines[i].Head = samples(x.Head)
	}
	return im
}

// samples are the same ones, for themselves.
func samples(l []api.Sample) []api.Sample {
	// A set that has no times keeps them all, and hands out what is its own.
	return tomb.Set{}.Keep(l)
}

// behind is an image behind a change that may be; it shares what stays with the image ahead, of which one is let go: heads grow in the room that both have.
func behind(im entry.Image, c entry.Change) (entry.Image, api.Errno) {
	made := im
	made.Lines = slices.Clone(im.Lines)
	for _, x := range c.Items {
		if e := come(&made, x); e != api.OK {
			return im, e
		}
	}
	for _, x := range c.Cuts {
		if e := takeOut(made.Lines, x); e != api.OK {
			return im, e
		}
	}
	if c.Kind == entry.Retain {
		retain(&made, c.Mark)
	}
	return made, api.OK
}

// place is where what has a key stands, or would, among what has keys that rise; whether it is there.
func place[T any](l []T, key string, of func(T) string) (int, bool) {
	i := sort.Search(len(l), func(i int) bool { return of(l[i]) >= key })
	return i, i < len(l) && of(l[i]) == key
}

// lineOf is where the line of a key stands, or would; whether it is there.
func lineOf(l []entry.Line, key string) (int, bool) {
	return place(l, key, func(x entry.Line) string { return x.Key })
}

// since is the place of the first sample at a time, or behind it.
func since(l []api.Sample, t int64) int {
	return sort.Search(len(l), func(i int) bool { return l[i].T >= t })
}

// come lets a sample come.
func come(im *entry.Image, x entry.Item) api.Errno {
	i, is := lineOf(im.Lines, x.Key)
	if !is {
		if len(im.Lines) >= api.MaxSeries {
			return api.ErrSeries
		}
		im.Lines = slices.Insert(im.Lines, i, entry.Line{Key: x.Key})
	} else if x.T <= im.Lines[i].Last {
		return api.ErrOrder
	}
	line := &im.Lines[i]
	line.Last = x.T
	if x.T >= im.Mark {
		line.Head = append(line.Head, api.Sample{T: x.T, H: hist.Clone(x.H)})
	}
	return api.OK
}

// takeOut takes samples out of a line.
func takeOut(lines []entry.Line, x entry.Cut) api.Errno {
	i, is := lineOf(lines, x.Key)
	if !is || x.From > lines[i].Last {
		return api.ErrNone
	}
	line := &lines[i]
	gone := tomb.Of(tomb.Range{From: x.From, To: min(x.To, line.Last)})
	tombs := line.Tombs.And(gone)
	// The document tells nothing of more ranges than an image may have; taken in, they could never be published.
	if !entry.Sound(entry.Image{Lines: []entry.Line{{Key: line.Key, Last: line.Last, Tombs: tombs}}}) {
		return api.ErrLimit
	}
	line.Tombs, line.Head = tombs, gone.Keep(line.Head)
	return api.OK
}

// retain lets the mark rise.
func retain(im *entry.Image, mark int64) {
	im.Mark = max(im.Mark, mark)
	for i, x := range im.Lines {
		im.Lines[i].Head = slices.Clone(x.Head[since(x.Head, im.Mark):])
	}
}
