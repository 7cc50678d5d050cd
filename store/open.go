package store

import (
	"pluvial/api"
	"pluvial/block"
	"pluvial/disk"
	"pluvial/entry"
	"pluvial/sum"
)

// Open is the store of a disk; the file that is broken, if one is.
func Open(d *disk.Disk) (*Store, string, api.Errno) {
	switch {
	case d == nil:
		return nil, "", api.ErrNil
	case d.Down():
		return nil, "", api.ErrDown
	}
	s := &Store{disk: d, log: greatest(d.Names()), blocks: make(map[int]block.Block)}
	torn, broken := s.read()
	if broken != "" {
		return nil, broken, api.ErrBroken
	}
	if e := s.settle(torn); e != api.OK {
		return nil, "", e
	}
	return s, "", api.OK
}

// read takes in what the files that count tell: whether the log is to be made anew, as it is torn, or isn't there; the file that is broken, if one is.
func (s *Store) read() (torn bool, broken string) {
	if s.log == noLog {
		return true, ""
	}
	name := fileName(logName, s.log)
	b, _ := s.disk.Read(name)
	texts, _, end := sum.All(b)
	if len(texts) == 0 || !s.readImage(texts[0]) {
		return false, name
	}
	if n, is := s.readBlocks(); is {
		return false, fileName(blockName, n)
	}
	if n, is := s.strange(); is {
		return false, fileName(blockName, n)
	}
	for _, text := range texts[1:] {
		if !s.readChange(text) {
			return false, name
		}
	}
	return end != api.OK, ""
}

// readImage takes in the image; false: it is none.
func (s *Store) readImage(text []byte) bool {
	im, e := entry.Load(text)
	s.image = im
	return e == api.OK
}

// readBlocks takes in the blocks that the image names, up to the first one that is none, or isn't there; false: all are.
func (s *Store) readBlocks() (int, bool) {
	for _, n := range s.image.Blocks {
		// Of a file that isn't there no bytes are read, and these are no block's.
		b, _ := s.disk.Read(fileName(blockName, n))
		x, e := block.Decode(b)
		if e != api.OK {
			return n, true
		}
		s.blocks[n] = x
	}
	return 0, false
}

// moment is a time of a line, by its place.
type moment struct {
	line int
	t    int64
}

// strange is the first block one of whose rows can't be; false: there is none.
func (s *Store) strange() (int, bool) {
	taken := make(map[moment]int)
	for i, x := range s.image.Lines {
		for _, h := range x.Head {
			taken[moment{i, h.T}] = 1
		}
	}
	for _, n := range s.image.Blocks {
		for _, r := range s.blocks[n].Rows {
			if !s.mayHave(taken, r) {
				return n, true
			}
		}
	}
	return 0, false
}

// mayHave says whether a block's row can be, and takes its times.
func (s *Store) mayHave(taken map[moment]int, r block.Row) bool {
	i, is := lineOf(s.image.Lines, r.Key)
	if !is {
		return false
	}
	for _, x := range r.Samples {
		at := moment{i, x.T}
		if x.T > s.image.Lines[i].Last || taken[at] > 0 {
			return false
		}
		taken[at] = 1
	}
	return true
}

// readChange takes in a change; false: it is none, or can't be.
func (s *Store) readChange(text []byte) bool {
	c, e := entry.Decode(text)
	if e != api.OK {
		return false
	}
	s.image, e = behind(s.image, c)
	return e == api.OK
}

// settle takes away what doesn't count, and makes the log anew, if that is wanted.
func (s *Store) settle(anew bool) api.Errno {
	// A disk that was filled otherwise than by a store may have files that aren't sure.
	if e := s.makeSure(); e != api.OK {
		return e
	}
	// Ahead of the log, which may want the room.
	if e := s.clean(); e != api.OK {
		return e
	}
	if !anew {
		return api.OK
	}
	e := s.move(s.image.Lines, nil, nil)
	if s.disk.Down() {
		return e
	}
	// Where it can't be made anew, the store may be read all the same.
	s.shut = e != api.OK
	return api.OK
}
