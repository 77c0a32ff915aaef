// Package octet is layer 1; see shared/doc/01-octet.md.
package octet

// cursor walks over some bytes from the front.
type cursor struct {
	rest   []byte
	offset int // of the first byte of rest
}

// next passes n bytes. They are cut off so that nothing can grow into those behind them.
func (c *cursor) next(n int) ([]byte, bool) {
	if n < 0 || n > len(c.rest) {
		return nil, false
	}
	b := c.rest[:n:n]
	c.rest = c.rest[n:]
	c.offset += n
	return b, true
}

// place returns the offset of the next byte.
func (c *cursor) place() int { return c.offset }

// size returns the number of bytes that are left.
func (c *cursor) size() int { return len(c.rest) }

// Reader reads bytes from the front.
type Reader struct{ cursor }

// New returns a reader of some bytes.
func New(b []byte) *Reader {
	return &Reader{cursor{rest: Cat(b)}}
}

// some returns the reader itself, and one of no bytes instead of nil.
func (r *Reader) some() *Reader {
	if r == nil {
		return New(nil)
	}
	return r
}

// Number reads a number of k bytes.
func (r *Reader) Number(k int) (uint32, bool) {
	if k < 1 || k > 4 {
		return 0, false
	}
	b, ok := r.some().next(k)
	if !ok {
		return 0, false
	}
	var x uint32
	for _, c := range b {
		x = x<<8 | uint32(c)
	}
	return x, true
}

// Take reads n bytes.
func (r *Reader) Take(n int) ([]byte, bool) {
	b, ok := r.some().next(n)
	if !ok {
		return nil, false
	}
	return Cat(b), true
}

// Part returns a reader of the next n bytes.
func (r *Reader) Part(n int) (*Reader, bool) {
	whole := r.some()
	at := whole.place()
	b, ok := whole.next(n)
	if !ok {
		return nil, false
	}
	// Nobody writes to the bytes of a reader, so that both may look at the same ones.
	return &Reader{cursor{rest: b, offset: at}}, true
}

// At returns the offset of the next byte.
func (r *Reader) At() int { return r.some().place() }

// Left returns the number of bytes that are left.
func (r *Reader) Left() int { return r.some().size() }

// Put returns a number as k bytes.
func Put(k int, x uint32) ([]byte, bool) {
	if k < 1 || k > 4 || uint64(x)>>(8*k) != 0 {
		return nil, false
	}
	b := make([]byte, k)
	for i := k - 1; i >= 0; i-- {
		b[i] = byte(x)
		x >>= 8
	}
	return b, true
}

// Cat joins byte strings.
func Cat(parts ...[]byte) []byte {
	n := 0
	for _, p := range parts {
		n += len(p)
	}
	b := make([]byte, 0, n)
	for _, p := range parts {
		b = append(b, p...)
	}
	return b
}

// All reports whether all bytes have a value.
func All(x byte, b ...byte) bool {
	for _, c := range b {
		if c != x {
			return false
		}
	}
	return true
}
