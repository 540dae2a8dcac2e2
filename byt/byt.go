// Package byt is layer 1: it writes integers and byte strings to a byte sequence and reads them back. See shared/doc/01-byt.md.
package byt

import "bobbin/api"

// maxLay is the greatest length that the one byte before a byte string can tell.
const maxLay = 255

// mayWidth reports whether numbers can be written in so many bytes.
func mayWidth(width int) bool {
	return width == 1 || width == 2 || width == 4
}

// clone returns b in new memory, so that neither side sees later changes of the other.
func clone(b []byte) []byte {
	own := make([]byte, len(b))
	copy(own, b)
	return own
}

// Writer collects bytes. Its zero value is empty and ready for use.
type Writer struct {
	b []byte
}

func (w *Writer) add(b ...byte) {
	w.b = append(w.b, b...)
}

// Put appends n in width bytes, little-endian.
func (w *Writer) Put(n, width int) api.Errno {
	if w == nil || !mayWidth(width) || n < 0 || n >= 1<<(8*width) {
		return api.ErrArg
	}
	for i := range width {
		w.add(byte(n >> (8 * i)))
	}
	return api.OK
}

// Lay appends one byte with the length of b, and b.
func (w *Writer) Lay(b []byte) api.Errno {
	// A nil Writer refuses every b with the same error, also one that is too long.
	if w == nil {
		return api.ErrArg
	}
	if len(b) > maxLay {
		return api.ErrLong
	}
	w.add(byte(len(b)))
	w.add(b...)
	return api.OK
}

// Bytes returns everything that was appended.
func (w *Writer) Bytes() []byte {
	if w == nil {
		return nil
	}
	return clone(w.b)
}

// Reader reads bytes from the beginning on; it keeps those that are left. Its zero value has none.
type Reader struct {
	b []byte
}

// NewReader returns a Reader at the beginning of b.
func NewReader(b []byte) *Reader {
	return &Reader{b: clone(b)}
}

// Get reads a little-endian number of width bytes.
func (r *Reader) Get(width int) (int, api.Errno) {
	if !mayWidth(width) {
		return 0, api.ErrArg
	}
	if r.Left() < width {
		return 0, api.ErrShort
	}
	n := 0
	for i := range width {
		n |= int(r.b[i]) << (8 * i)
	}
	r.b = r.b[width:]
	return n, api.OK
}

// Take reads one byte with a length and as many bytes after it, and returns these bytes.
func (r *Reader) Take() ([]byte, api.Errno) {
	if r.Left() == 0 {
		return nil, api.ErrShort
	}
	end := 1 + int(r.b[0])
	if r.Left() < end {
		return nil, api.ErrShort
	}
	b := clone(r.b[1:end])
	r.b = r.b[end:]
	return b, api.OK
}

// Left returns the number of bytes that are left.
func (r *Reader) Left() int {
	if r == nil {
		return 0
	}
	return len(r.b)
}
