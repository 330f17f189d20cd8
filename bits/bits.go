// Package bits is layer 1: see shared/doc/01-bits.md.
package bits

import (
	"slices"

	"corduroy/api"
)

// Writer writes bits.
type Writer struct {
	bytes []byte
	count int
}

// NewWriter makes a writer.
func NewWriter() *Writer { return &Writer{} }

// Put writes a number.
func (w *Writer) Put(v uint64, width int) api.Errno {
	if !isWidth(width) {
		return api.ErrWidth
	}
	if !fits(v, width) {
		return api.ErrRange
	}
	for done := 0; done < width; {
		used := w.count % 8
		if used == 0 {
			w.bytes = append(w.bytes, 0)
		}
		w.bytes[len(w.bytes)-1] |= byte(v >> done << used)
		step := min(8-used, width-done)
		done += step
		w.count += step
	}
	return api.OK
}

// Len is how many bits were written.
func (w *Writer) Len() int { return w.count }

// Bytes are the bits that were written.
func (w *Writer) Bytes() []byte { return slices.Clone(w.bytes) }

// Reader reads bits.
type Reader struct {
	bytes []byte
	at    int
}

// NewReader makes a reader.
func NewReader(b []byte) *Reader { return &Reader{bytes: slices.Clone(b)} }

// Get reads a number.
func (r *Reader) Get(width int) (uint64, api.Errno) {
	if !isWidth(width) {
		return 0, api.ErrWidth
	}
	if width > r.Left() {
		return 0, api.ErrShort
	}
	var v uint64
	for done := 0; done < width; {
		used := r.at % 8
		v |= uint64(r.bytes[r.at/8]>>used) << done
		step := min(8-used, width-done)
		done += step
		r.at += step
	}
	return v & lowest(width), api.OK
}

// Left is how many bits are left.
func (r *Reader) Left() int { return 8*len(r.bytes) - r.at }

// Need is how many bytes numbers take.
func Need(n, width int) int {
	if !isCount(n) || !isWidth(width) {
		return 0
	}
	return (n*width + 7) / 8
}

// Pack packs numbers.
func Pack(width int, l ...uint64) ([]byte, api.Errno) {
	if !isWidth(width) {
		return nil, api.ErrWidth
	}
	if !isCount(len(l)) {
		return nil, api.ErrCount
	}
	w := NewWriter()
	for _, v := range l {
		if e := w.Put(v, width); e != api.OK {
			return nil, e
		}
	}
	return w.bytes, api.OK
}

// Unpack unpacks numbers.
func Unpack(b []byte, width, n int) ([]uint64, api.Errno) {
	if !isWidth(width) {
		return nil, api.ErrWidth
	}
	if !isCount(n) {
		return nil, api.ErrCount
	}
	need := Need(n, width)
	if len(b) < need {
		return nil, api.ErrShort
	}
	if len(b) > need {
		return nil, api.ErrLong
	}
	r := NewReader(b)
	l := make([]uint64, n)
	for i := range n {
		l[i], _ = r.Get(width)
	}
	if rest, _ := r.Get(r.Left()); rest != 0 {
		return nil, api.ErrForm
	}
	return l, api.OK
}

func isWidth(width int) bool { return width >= 0 && width <= api.MaxWidth }

func isCount(n int) bool { return n >= 0 && n <= api.MaxBlock }

func fits(v uint64, width int) bool { return v&^lowest(width) == 0 }

// lowest has 1 in so many lowest bits; of 64 the shift leaves 0, and 0 - 1 goes round to all bits.
func lowest(width int) uint64 { return 1<<width - 1 }
