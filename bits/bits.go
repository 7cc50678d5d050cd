// Package bits is layer 2: see shared/doc/02-bits.md.
package bits

import (
	"pluvial/api"
	"pluvial/num"
	"slices"
)

// lastClass needs no bit 0 behind its bits 1: there is no class behind it.
const lastClass = 6

// classes are how many bits a count may be laid in, behind the bits that tell its class.
var classes = [lastClass + 1]int{0, 3, 7, 12, 20, 32, 64}

// classOf seeks by halves the first class that has room for a count.
func classOf(n uint64) int {
	low, high := 0, lastClass
	for low < high {
		middle := (low + high) / 2
		if n>>classes[middle] != 0 {
			low = middle + 1
		} else {
			high = middle
		}
	}
	return low
}

// within is how many bits of a number are meant.
func within(bits int) int { return min(max(bits, 0), 64) }

// Writer lays bits, the highest of each byte first.
type Writer struct {
	bytes []byte
	long  int
}

// lay lays the lowest bit of a number.
func (w *Writer) lay(n uint64) {
	if w.long%8 == 0 {
		w.bytes = append(w.bytes, 0)
	}
	w.bytes[w.long/8] |= byte(n&1) << (7 - w.long%8)
	w.long++
}

// Bit lays one bit.
func (w *Writer) Bit(b bool) {
	var n uint64
	if b {
		n = 1
	}
	w.Put(n, 1)
}

// Put lays the lowest bits of a number, the highest of them first; at most 64.
func (w *Writer) Put(n uint64, bits int) {
	if w == nil {
		return
	}
	bits = within(bits)
	for i := range bits {
		w.lay(n >> (bits - 1 - i))
	}
}

// Count lays a count, in as many bits as its class has.
func (w *Writer) Count(n uint64) {
	class := classOf(n)
	for range class {
		w.Bit(true)
	}
	if class < lastClass {
		w.Bit(false)
	}
	w.Put(n, classes[class])
}

// Int lays a whole number.
func (w *Writer) Int(n int64) { w.Count(num.Zig(n)) }

// Len is how many bits were laid.
func (w *Writer) Len() int {
	if w == nil {
		return 0
	}
	return w.long
}

// Bytes are all bits, with noughts at the end.
func (w *Writer) Bytes() []byte {
	if w == nil {
		return nil
	}
	// A later bit is laid into the last byte, that must not be seen in what was handed out.
	return slices.Clone(w.bytes)
}

// Reader takes bits.
type Reader struct {
	bytes []byte
	taken int
	wrong api.Errno
}

// Read is a reader of bytes.
func Read(b []byte) *Reader {
	// What the caller does to its bytes later must not be seen in what is taken.
	return &Reader{bytes: slices.Clone(b)}
}

// next is the next bit, of which the caller knows that there is one.
func (r *Reader) next() uint64 {
	bit := r.bytes[r.taken/8] >> (7 - r.taken%8) & 1
	r.taken++
	return uint64(bit)
}

// fail keeps what is wrong, and gives back the bits that were taken since: a call that goes wrong takes none.
func (r *Reader) fail(from int, e api.Errno) {
	r.taken = from
	r.wrong = e
}

// Bit takes one bit.
func (r *Reader) Bit() bool { return r.Get(1) == 1 }

// Get takes so many bits as a number; at most 64.
func (r *Reader) Get(bits int) uint64 {
	if r.Err() != api.OK {
		return 0
	}
	bits = within(bits)
	if bits > r.Left() {
		r.fail(r.taken, api.ErrShort)
		return 0
	}
	var n uint64
	for range bits {
		n = n<<1 | r.next()
	}
	return n
}

// class takes the bits that tell a class.
func (r *Reader) class() int {
	for class := range lastClass {
		if !r.Bit() {
			return class
		}
	}
	return lastClass
}

// Count takes a count; one that is laid longer than need be is none.
func (r *Reader) Count() uint64 {
	if r.Err() != api.OK {
		return 0
	}
	from := r.taken
	class := r.class()
	n := r.Get(classes[class])
	switch {
	case r.wrong != api.OK:
		r.fail(from, r.wrong)
		return 0
	case class != classOf(n):
		r.fail(from, api.ErrForm)
		return 0
	}
	return n
}

// Int takes a whole number.
func (r *Reader) Int() int64 { return num.Zag(r.Count()) }

// Small takes a count of at most so many.
func (r *Reader) Small(most int) int {
	if r.Err() != api.OK {
		return 0
	}
	from := r.taken
	n := r.Count()
	if r.wrong != api.OK {
		return 0
	}
	if most < 0 || n > uint64(most) {
		r.fail(from, api.ErrLimit)
		return 0
	}
	return int(n)
}

// Err is what is wrong.
func (r *Reader) Err() api.Errno {
	if r == nil {
		return api.ErrNil
	}
	return r.wrong
}

// Left is how many bits are left.
func (r *Reader) Left() int {
	if r == nil {
		return 0
	}
	return len(r.bytes)*8 - r.taken
}

// End wants nothing but noughts of a last byte; what is wrong.
func (r *Reader) End() api.Errno {
	if r.Err() != api.OK {
		return r.Err()
	}
	left := r.Left()
	if left >= 8 {
		return api.ErrForm
	}
	// Fewer than 8 bits left are the lowest ones of the last byte.
	if left > 0 && r.bytes[len(r.bytes)-1]<<(8-left) != 0 {
		return api.ErrForm
	}
	return api.OK
}
