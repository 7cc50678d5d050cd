package store

import (
	"pluvial/api"
	"pluvial/block"
	"pluvial/disk"
	"pluvial/entry"
	"pluvial/sum"
	"slices"
	"strconv"
	"strings"
)

// What files are called: logs and blocks have a number behind that, with noughts ahead, as many as digits say.
const (
	logName   = "log-"
	blockName = "blk-"
	newName   = "new"
	digits    = 6
)

// mostNumber is the greatest number that a file may have.
const mostNumber = 65536

// noLog is the number of the log, where there is none: the first one is the next.
const noLog = -1

// fileName is what the file of a number is called; it has no more digits than may be.
func fileName(of string, n int) string {
	s := strconv.Itoa(n)
	return of + strings.Repeat("0", digits-len(s)) + s
}

// number is that of a file; false: it isn't called so.
func number(of, name string) (int, bool) {
	n, err := strconv.Atoi(strings.TrimPrefix(name, of))
	// Written again, a number that was told otherwise has another name.
	return n, err == nil && 0 <= n && n <= mostNumber && fileName(of, n) == name
}

// greatest is the number of the log that counts among files; noLog: there is none.
func greatest(names []string) int {
	log := noLog
	for _, name := range names {
		if n, is := number(logName, name); is {
			log = max(log, n)
		}
	}
	return log
}

// known says whether a file is called as a store's are.
func known(name string) bool {
	_, log := number(logName, name)
	_, block := number(blockName, name)
	return log || block || name == newName
}

// write lays bytes behind a file's, and makes them sure.
func write(d *disk.Disk, name string, b []byte) api.Errno {
	if e := d.Append(name, b); e != api.OK {
		return e
	}
	return d.Sync(name)
}

// files are the names of those that count.
func (s *Store) files() []string {
	var names []string
	if s.log != noLog {
		names = append(names, fileName(logName, s.log))
	}
	for _, n := range s.image.Blocks {
		names = append(names, fileName(blockName, n))
	}
	return names
}

// makeSure makes sure what counts, if there is a log.
func (s *Store) makeSure() api.Errno {
	if s.log == noLog {
		return api.OK
	}
	for _, name := range s.files() {
		if e := s.disk.Sync(name); e != api.OK {
			return e
		}
	}
	return s.disk.SyncNames()
}

// clean takes away the files that don't count; those of other names stay.
func (s *Store) clean() api.Errno {
	count := s.files()
	for _, name := range s.disk.Names() {
		if !known(name) || slices.Contains(count, name) {
			continue
		}
		if e := s.disk.Remove(name); e != api.OK {
			return e
		}
	}
	return api.OK
}

// publish writes the blocks that are new, and then the image, as the log of the store's number; what counted till then is taken away behind that.
func (s *Store) publish(fresh []int) api.Errno {
	image, e := entry.Store(s.image)
	if e != api.OK {
		return e
	}
	for _, n := range fresh {
		b, e := block.Encode(s.blocks[n])
		if e != api.OK {
			return e
		}
		if e := write(s.disk, fileName(blockName, n), b); e != api.OK {
			return e
		}
	}
	// The image must not be there, whatever the power does, while a block that it names isn't.
	if e := s.disk.SyncNames(); e != api.OK {
		return e
	}
	if e := write(s.disk, newName, sum.Seal(image)); e != api.OK {
		return e
	}
	if e := s.disk.Rename(newName, fileName(logName, s.log)); e != api.OK {
		return e
	}
	// Nor must the log ahead be gone, while this one might be.
	if e := s.disk.SyncNames(); e != api.OK {
		return e
	}
	return s.clean()
}
