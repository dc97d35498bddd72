// Package bits is layer 1: bits in bytes, the lowest first. See shared/doc/01-bits.md.
package bits

import "haversack/api"

const (
	byteBits = 8
	mostBits = 32 // of a number that is put or taken
)

// Writer lays bits, the lowest first.
type Writer struct {
	bytes []byte // just as many as the bits need; what is not laid of the last one is 0
	count int    // bits that were laid
}

// NewWriter is P1.1.
func NewWriter() *Writer { return &Writer{} }

// Put is P1.1.
func (w *Writer) Put(v uint32, n int) api.Errno {
	if w == nil {
		return api.ErrNil
	}
	if !fits(n) || v>>n != 0 {
		return api.ErrArg
	}
	w.lay(v, n)
	return api.OK
}

func (w *Writer) lay(v uint32, n int) {
laying:
	for {
		free := len(w.bytes)*byteBits - w.count
		switch {
		case n == 0:
			break laying
		case free == 0:
			w.bytes = append(w.bytes, 0)
		default:
			// What the byte has no room for falls off its upper end, and is laid in the next round.
			w.bytes[len(w.bytes)-1] |= byte(v << (byteBits - free))
			part := min(free, n)
			v >>= part
			n -= part
			w.count += part
		}
	}
}

// Align is P1.2.
func (w *Writer) Align() api.Errno {
	if w == nil {
		return api.ErrNil
	}
	w.count = len(w.bytes) * byteBits
	return api.OK
}

// Len is P1.2.
func (w *Writer) Len() int {
	if w == nil {
		return 0
	}
	return w.count
}

// Bytes is P1.2.
func (w *Writer) Bytes() []byte {
	if w == nil {
		return nil
	}
	out := make([]byte, len(w.bytes))
	copy(out, w.bytes)
	return out
}

// Reader takes bits, the lowest first.
type Reader struct {
	bytes []byte // those that are gone too, as Back may ask for them
	gone  int    // bits
}

// NewReader is P1.3.
func NewReader(b []byte) *Reader {
	r := &Reader{bytes: make([]byte, len(b))}
	copy(r.bytes, b)
	return r
}

// More is P1.3.
func (r *Reader) More(b []byte) api.Errno {
	if r == nil {
		return api.ErrNil
	}
	r.bytes = append(r.bytes, b...)
	return api.OK
}

// Take is P1.4.
func (r *Reader) Take(n int) (uint32, api.Errno) {
	if r == nil {
		return 0, api.ErrNil
	}
	if !fits(n) {
		return 0, api.ErrArg
	}
	if n > r.Left() {
		return 0, api.ErrBitsEnd
	}
	return r.cut(n), api.OK
}

// cut needs n bits that are left.
func (r *Reader) cut(n int) uint32 {
	var v uint32
	got := 0
cutting:
	for {
		need := n - got
		if need == 0 {
			break cutting
		}
		used := r.gone % byteBits
		part := min(byteBits-used, need)
		rest := uint32(r.bytes[r.gone/byteBits]) >> used
		v |= (rest & (1<<part - 1)) << got
		got += part
		r.gone += part
	}
	return v
}

// Align is P1.4.
func (r *Reader) Align() api.Errno {
	if r == nil {
		return api.ErrNil
	}
	r.gone = (r.gone + byteBits - 1) / byteBits * byteBits
	return api.OK
}

// Left is P1.5.
func (r *Reader) Left() int {
	if r == nil {
		return 0
	}
	return len(r.bytes)*byteBits - r.gone
}

// Gone is P1.5.
func (r *Reader) Gone() int {
	if r == nil {
		return 0
	}
	return r.gone
}

// Back is P1.5.
func (r *Reader) Back(n int) api.Errno {
	if r == nil {
		return api.ErrNil
	}
	if n < 0 || n > r.gone {
		return api.ErrArg
	}
	r.gone -= n
	return api.OK
}

// fits: whether a number may have n bits.
func fits(n int) bool { return n >= 0 && n <= mostBits }
