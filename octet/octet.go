// Package octet: numbers and lists as bytes (chapter 1).
package octet

import (
	"bytes"
	"slices"
)

// The first bytes of counts that two, four and eight more bytes tell.
const (
	then2 = 253
	then4 = 254
	then8 = 255
)

// Writer is what was put.
type Writer struct {
	put []byte
}

// Put: a number, in so many bytes.
func (w *Writer) Put(x uint64, size int) {
	if w == nil || !isSize(size) {
		return
	}
	for range size {
		w.put = append(w.put, byte(x))
		x >>= 8
	}
}

// CountSize: in how many bytes a count is written.
func CountSize(x uint64) int {
	switch {
	case x < then2:
		return 1
	case x < 1<<16:
		return 3
	case x < 1<<32:
		return 5
	}
	return 9
}

// Count: a count.
func (w *Writer) Count(x uint64) {
	switch CountSize(x) {
	case 1:
		w.Put(x, 1)
	case 3:
		w.Put(then2, 1)
		w.Put(x, 2)
	case 5:
		w.Put(then4, 1)
		w.Put(x, 4)
	case 9:
		w.Put(then8, 1)
		w.Put(x, 8)
	}
}

// Raw: bytes, as they are.
func (w *Writer) Raw(b []byte) {
	if w == nil {
		return
	}
	w.put = append(w.put, b...)
}

// Counted: a count, and so many bytes.
func (w *Writer) Counted(b []byte) {
	w.Count(uint64(len(b)))
	w.Raw(b)
}

// Bytes: all that was put.
func (w *Writer) Bytes() []byte {
	if w == nil {
		return nil
	}
	return bytes.Clone(w.put)
}

// Reader goes through bytes.
type Reader struct {
	left  []byte // none, once it is wrong
	wrong bool
}

// Read: a reader.
func Read(b []byte) *Reader {
	return &Reader{left: bytes.Clone(b)}
}

// Wrong: could something not be read?
func (r *Reader) Wrong() bool {
	return r == nil || r.wrong
}

// Raw: the next so many bytes.
func (r *Reader) Raw(n int) []byte {
	return bytes.Clone(r.take(n))
}

// Get: the next number.
func (r *Reader) Get(size int) uint64 {
	if !isSize(size) {
		r.fail()
		return 0
	}
	var x uint64
	for _, c := range slices.Backward(r.take(size)) {
		x = x<<8 | uint64(c)
	}
	return x
}

// Count: the next count.
func (r *Reader) Count(most uint64) uint64 {
	size, x := 1, r.Get(1)
	switch x {
	case then2:
		size, x = 3, r.Get(2)
	case then4:
		size, x = 5, r.Get(4)
	case then8:
		size, x = 9, r.Get(8)
	}
	if size != CountSize(x) || x > most {
		r.fail()
		return 0
	}
	return x
}

// Counted: the next counted bytes.
func (r *Reader) Counted(most int) []byte {
	if most < 0 {
		r.fail()
		return nil
	}
	return r.Raw(int(r.Count(uint64(most))))
}

// Left: how many bytes are left.
func (r *Reader) Left() int {
	if r == nil {
		return 0
	}
	return len(r.left)
}

// End: is nothing left, and all right?
func (r *Reader) End() bool {
	return !r.Wrong() && r.Left() == 0
}

// take goes on by so many bytes, and answers them: the reader's own, to be copied ahead of handing them out.
func (r *Reader) take(n int) []byte {
	if n < 0 || n > r.Left() {
		r.fail()
		return nil
	}
	if r.Wrong() {
		return nil
	}
	b := r.left[:n]
	r.left = r.left[n:]
	return b
}

// fail makes the reader wrong, and lets go of its bytes, as none of them is told any more.
func (r *Reader) fail() {
	if r == nil {
		return
	}
	r.left, r.wrong = nil, true
}

// isSize: may a number have so many bytes?
func isSize(size int) bool {
	return size == 1 || size == 2 || size == 4 || size == 8
}
