// Package parts lays and takes what layers 15 and 16 tell alike: lists, texts, samples, and the whole of some bytes.
package parts

import (
	"bytes"
	"pluvial/api"
	"pluvial/bits"
	"pluvial/chunk"
	"slices"
)

// LayList lays how many there are, and each one.
func LayList[T any](w *bits.Writer, l []T, lay func(*bits.Writer, T)) {
	w.Count(uint64(len(l)))
	for _, x := range l {
		lay(w, x)
	}
}

// TakeList takes a list that was laid so, of at most so many; false: it is none.
func TakeList[T any](r *bits.Reader, most int, take func(*bits.Reader) (T, bool)) ([]T, bool) {
	var l []T
	for range r.Small(most) {
		x, ok := take(r)
		// Ended early, bytes may tell of far more than they have.
		if !ok || r.Err() != api.OK {
			return nil, false
		}
		l = append(l, x)
	}
	return l, r.Err() == api.OK
}

// layByte lays a byte.
func layByte(w *bits.Writer, b byte) { w.Put(uint64(b), 8) }

// takeByte takes a byte.
func takeByte(r *bits.Reader) (byte, bool) { return byte(r.Get(8)), true }

// LayText lays a text.
func LayText(w *bits.Writer, s string) { LayList(w, []byte(s), layByte) }

// TakeText takes a text; false: it is none.
func TakeText(r *bits.Reader) (string, bool) {
	b, ok := TakeList(r, r.Left(), takeByte)
	return string(b), ok
}

// layChunk lays the samples of a chunk, that may be one.
func layChunk(w *bits.Writer, l []api.Sample) {
	b, _ := chunk.Encode(l)
	LayText(w, string(b))
}

// takeChunk takes the samples of a chunk; false: it is none.
func takeChunk(r *bits.Reader) ([]api.Sample, bool) {
	s, ok := TakeText(r)
	if !ok {
		return nil, false
	}
	l, e := chunk.Decode([]byte(s))
	return l, e == api.OK
}

// LaySamples lays samples that may be a series', chunk by chunk.
func LaySamples(w *bits.Writer, l []api.Sample) { LayList(w, chunk.Cut(l), layChunk) }

// TakeSamples takes samples; false: they are none.
func TakeSamples(r *bits.Reader) ([]api.Sample, bool) {
	chunks, ok := TakeList(r, r.Left(), takeChunk)
	return slices.Concat(chunks...), ok
}

// Whole is what bytes tell, if they are just those that are made of it; else ErrForm.
func Whole[T any](b []byte, take func(*bits.Reader) (T, bool), write func(T) ([]byte, api.Errno)) (T, api.Errno) {
	var none T
	told, ok := take(bits.Read(b))
	if !ok {
		return none, api.ErrForm
	}
	// What may not be isn't written; and what was laid otherwise, by other chunks than Cut's or with more behind it, is written by other bytes.
	again, e := write(told)
	if e != api.OK || !bytes.Equal(again, b) {
		return none, api.ErrForm
	}
	return told, api.OK
}
