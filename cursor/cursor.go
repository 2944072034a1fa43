// Package cursor: raw bytes, each read bounded: see doc/01-cursor.md.
package cursor

// Cursor reads bytes one behind the other, up to the first read that is refused.
type Cursor struct {
	bytes  []byte
	at     int
	failed bool
}

// New gives a cursor ahead of the first byte. It reads a copy, so that what
// becomes of b later changes no answer.
func New(b []byte) *Cursor {
	return &Cursor{bytes: copied(b)}
}

// U1 reads one byte.
func (c *Cursor) U1() int { return int(c.number(1)) }

// U2 reads two bytes, the highest first.
func (c *Cursor) U2() int { return int(c.number(2)) }

// U4 reads four bytes, the highest first.
func (c *Cursor) U4() int64 { return c.number(4) }

// Bytes reads the next n bytes.
func (c *Cursor) Bytes(n int) []byte { return copied(c.take(n)) }

// At tells how many bytes were read.
func (c *Cursor) At() int {
	if c == nil {
		return 0
	}
	return c.at
}

// Left tells how many bytes are left.
func (c *Cursor) Left() int {
	if c == nil {
		return 0
	}
	return len(c.bytes) - c.at
}

// OK tells whether no read was refused so far.
func (c *Cursor) OK() bool { return c != nil && !c.failed }

// number reads n bytes, the highest first; of none, as a refused read gives
// them, it makes 0.
func (c *Cursor) number(n int) int64 {
	var v int64
	for _, b := range c.take(n) {
		v = v<<8 | int64(b)
	}
	return v
}

// take goes past the next n bytes and shows them where they lie: they must not
// leave the package but as a copy. n is held against what is left, not added
// to where the cursor is: that sum could wrap.
func (c *Cursor) take(n int) []byte {
	if !c.OK() {
		return nil
	}
	if n < 0 || n > c.Left() {
		c.failed = true
		return nil
	}
	from := c.at
	c.at += n
	return c.bytes[from:c.at]
}

func copied(b []byte) []byte {
	out := make([]byte, len(b))
	copy(out, b)
	return out
}
