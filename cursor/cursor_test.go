// Tests of P1.1 (doc/01-cursor.md) and of what P0.1 to P0.6 say of its calls.
package cursor_test

import (
	"bytes"
	"math"
	"testing"

	"obelisk/cursor"
)

// A read is a call of U1, U2, U4 or Bytes; what it gives is the bytes, or the
// bytes of the number, or refused.
type read struct {
	name string
	kind byte // '1', '2', '4' or 'B'
	n    int  // of 'B'
}

var reads = []read{
	{"U1", '1', 1},
	{"U2", '2', 2},
	{"U4", '4', 4},
	{"Bytes(0)", 'B', 0},
	{"Bytes(1)", 'B', 1},
	{"Bytes(3)", 'B', 3},
	{"Bytes(-1)", 'B', -1},
	{"Bytes(MaxInt)", 'B', math.MaxInt},
}

// number is what is read by a U call of these bytes, worked out another way
// than by shifts.
func number(b []byte) int64 {
	var v, weight int64 = 0, 1
	for i := len(b) - 1; i >= 0; i-- {
		v += int64(b[i]) * weight
		weight *= 256
	}
	return v
}

// try makes the read and holds what comes of it against want (nil: nothing).
func try(t *testing.T, c *cursor.Cursor, r read, want []byte) {
	t.Helper()
	var got int64
	switch r.kind {
	case '1':
		got = int64(c.U1())
	case '2':
		got = int64(c.U2())
	case '4':
		got = c.U4()
	default:
		if b := c.Bytes(r.n); !bytes.Equal(b, want) {
			t.Errorf("%s gives %v, not %v", r.name, b, want)
		}
		return
	}
	if got != number(want) {
		t.Errorf("%s gives %#x, not %#x", r.name, got, number(want))
	}
}

// state holds At, Left and OK against what they should be.
func state(t *testing.T, c *cursor.Cursor, at, left int, ok bool) {
	t.Helper()
	if c.At() != at || c.Left() != left || c.OK() != ok {
		t.Errorf("At %d, Left %d, OK %v; not %d, %d, %v", c.At(), c.Left(), c.OK(), at, left, ok)
	}
}

// row gives n bytes, unlike one another, the highest bit of some set.
func row(n int) []byte {
	b := make([]byte, n)
	for i := range b {
		b[i] = byte(0x8f + 37*i)
	}
	return b
}

func TestReadsOneBehindTheOther(t *testing.T) {
	c := cursor.New([]byte{0x12, 0x34, 0x56, 0x78, 0x9a, 0xbc, 0xde, 5, 6, 7, 8})
	state(t, c, 0, 11, true)
	if v := c.U1(); v != 0x12 {
		t.Errorf("U1: %#x", v)
	}
	state(t, c, 1, 10, true)
	if v := c.U2(); v != 0x3456 {
		t.Errorf("U2: %#x", v)
	}
	state(t, c, 3, 8, true)
	if v := c.U4(); v != 0x789abcde {
		t.Errorf("U4: %#x", v)
	}
	state(t, c, 7, 4, true)
	if b := c.Bytes(3); !bytes.Equal(b, []byte{5, 6, 7}) {
		t.Errorf("Bytes: %v", b)
	}
	state(t, c, 10, 1, true)
	if v := c.U1(); v != 8 {
		t.Errorf("U1: %#x", v)
	}
	state(t, c, 11, 0, true)
}

func TestNumbersAreNotBelowZero(t *testing.T) {
	high := []byte{0xff, 0xfe, 0xfd, 0xfc}
	if v := cursor.New(high).U1(); v != 0xff {
		t.Errorf("U1: %d", v)
	}
	if v := cursor.New(high).U2(); v != 0xfffe {
		t.Errorf("U2: %d", v)
	}
	if v := cursor.New(high).U4(); v != 0xfffefdfc {
		t.Errorf("U4: %d", v)
	}
	first := []byte{0x80, 0, 0, 0}
	if v := cursor.New(first).U1(); v != 0x80 {
		t.Errorf("U1: %d", v)
	}
	if v := cursor.New(first).U2(); v != 0x8000 {
		t.Errorf("U2: %d", v)
	}
	if v := cursor.New(first).U4(); v != 0x80000000 {
		t.Errorf("U4: %d", v)
	}
}

func TestEveryByteIsRead(t *testing.T) {
	for v := range 256 {
		if got := cursor.New([]byte{byte(v)}).U1(); got != v {
			t.Errorf("U1 of %d: %d", v, got)
		}
		if got := cursor.New([]byte{0, byte(v)}).U2(); got != v {
			t.Errorf("U2 of %d: %d", v, got)
		}
		if got := cursor.New([]byte{0, 0, 0, byte(v)}).U4(); got != int64(v) {
			t.Errorf("U4 of %d: %d", v, got)
		}
	}
}

func TestReadOfJustWhatIsLeft(t *testing.T) {
	for _, r := range reads {
		for ahead := range 3 {
			if r.n < 0 || r.n > 8 {
				continue
			}
			b := row(ahead + r.n)
			c := cursor.New(b)
			c.Bytes(ahead)
			try(t, c, r, b[ahead:])
			state(t, c, len(b), 0, true)
			if len(c.Bytes(0)) != 0 || !c.OK() {
				t.Errorf("Bytes(0) at the end, behind %s", r.name)
			}
		}
	}
}

func TestReadOfMoreThanIsLeft(t *testing.T) {
	for _, r := range reads {
		for ahead := range 3 {
			for left := range 9 {
				if r.n >= 0 && r.n <= left {
					continue
				}
				b := row(ahead + left)
				c := cursor.New(b)
				c.Bytes(ahead)
				try(t, c, r, nil)
				state(t, c, ahead, left, false)
			}
		}
	}
}

func TestBytesOfOneMoreThanIsLeft(t *testing.T) {
	for left := range 40 {
		c := cursor.New(row(left + 1))
		c.U1()
		if got := c.Bytes(left + 1); len(got) != 0 {
			t.Errorf("Bytes(%d) of %d: %v", left+1, left, got)
		}
		state(t, c, 1, left, false)
	}
}

func TestBytesOfOddNumbers(t *testing.T) {
	odd := []int{-1, -2, -3, -256, math.MinInt32, math.MinInt, math.MinInt + 1,
		math.MaxInt, math.MaxInt - 1, math.MaxInt - 2, math.MaxInt32, 1 << 32, 1<<32 + 1, 1 << 16, 1<<16 + 1}
	for _, n := range odd {
		for ahead := range 4 {
			c := cursor.New(row(6))
			c.Bytes(ahead)
			if got := c.Bytes(n); len(got) != 0 {
				t.Errorf("Bytes(%d): %v", n, got)
			}
			state(t, c, ahead, 6-ahead, false)
		}
	}
}

func TestBytesOfNone(t *testing.T) {
	b := row(2)
	c := cursor.New(b)
	for ahead := range 3 {
		if got := c.Bytes(0); len(got) != 0 {
			t.Errorf("Bytes(0): %v", got)
		}
		state(t, c, ahead, 2-ahead, true)
		if ahead < 2 && c.U1() != int(b[ahead]) {
			t.Error("Bytes(0) changes what is read behind it")
		}
	}
}

// Behind each way to fail each read is refused, also one that would fit.
func TestReadsBehindOneThatFailed(t *testing.T) {
	b := row(3)
	for _, bad := range []read{
		{"U4", '4', 4},
		{"Bytes(4)", 'B', 4},
		{"Bytes(-1)", 'B', -1},
		{"Bytes(MaxInt)", 'B', math.MaxInt},
	} {
		for _, r := range reads {
			c := cursor.New(b)
			try(t, c, bad, nil)
			state(t, c, 0, 3, false)
			for range 3 {
				try(t, c, r, nil)
				state(t, c, 0, 3, false)
			}
		}
	}
	c := cursor.New(row(1))
	try(t, c, read{"U2", '2', 2}, nil)
	try(t, c, read{"U1", '1', 1}, nil)
	state(t, c, 0, 1, false)
	d := cursor.New(nil)
	try(t, d, read{"U1", '1', 1}, nil)
	try(t, d, read{"Bytes(0)", 'B', 0}, nil)
	state(t, d, 0, 0, false)
}

func TestNoBytes(t *testing.T) {
	for _, b := range [][]byte{nil, {}, make([]byte, 0, 8)} {
		state(t, cursor.New(b), 0, 0, true)
		for _, r := range reads {
			c := cursor.New(b)
			try(t, c, r, nil)
			state(t, c, 0, 0, r.n == 0)
		}
	}
}

func TestNilCursor(t *testing.T) {
	var c *cursor.Cursor
	for range 2 {
		for _, r := range reads {
			try(t, c, r, nil)
			state(t, c, 0, 0, false)
		}
	}
	try(t, c, read{"Bytes(MinInt)", 'B', math.MinInt}, nil)
}

// plan says what a run of reads should give.
type plan struct {
	b  []byte
	at int
	ok bool
}

func (p *plan) next(r read) []byte {
	p.ok = p.ok && r.n >= 0 && r.n <= len(p.b)-p.at
	if !p.ok {
		return nil
	}
	p.at += r.n
	return p.b[p.at-r.n : p.at]
}

// playAll makes every run of so many reads of these bytes.
func playAll(t *testing.T, b []byte, many int, run []read) {
	if many > 0 {
		for _, r := range reads {
			playAll(t, b, many-1, append(run, r))
		}
		return
	}
	c, p := cursor.New(b), plan{b, 0, true}
	for _, r := range run {
		try(t, c, r, p.next(r))
		state(t, c, p.at, len(b)-p.at, p.ok)
	}
	if t.Failed() {
		t.Fatalf("%d bytes, run %v", len(b), run)
	}
}

func TestAllOrders(t *testing.T) {
	for length := range 10 {
		playAll(t, row(length), 4, nil)
	}
}

func TestMoreBytesThanTwoOfThemCount(t *testing.T) {
	b := row(1<<17 + 3)
	c := cursor.New(b)
	if got := c.Bytes(1 << 17); !bytes.Equal(got, b[:1<<17]) {
		t.Error("Bytes of many gives others")
	}
	state(t, c, 1<<17, 3, true)
	c = cursor.New(b)
	for i := range b {
		if c.U1() != int(b[i]) {
			t.Fatalf("byte %d", i)
		}
	}
	state(t, c, len(b), 0, true)
}

// everyRead reads twelve bytes by all calls and fails one more.
func everyRead(c *cursor.Cursor) [][]byte {
	c.U1()
	c.U2()
	c.U4()
	out := [][]byte{c.Bytes(2), c.Bytes(0), c.Bytes(3)}
	return append(out, c.Bytes(1))
}

func fill(b []byte) {
	for i := range b {
		b[i] = 0xee
	}
}

func TestBytesHandedInStay(t *testing.T) {
	whole := row(20)
	b := whole[4:16]
	for _, got := range everyRead(cursor.New(b)) {
		fill(got[:cap(got)])
	}
	if !bytes.Equal(whole, row(20)) {
		t.Error("the bytes that were handed in are others")
	}
}

func TestSpareRoomIsNotRead(t *testing.T) {
	c := cursor.New(row(8)[:2])
	state(t, c, 0, 2, true)
	try(t, c, read{"Bytes(3)", 'B', 3}, nil)
	state(t, c, 0, 2, false)
}

func TestLaterChangesOfTheBytes(t *testing.T) {
	b := row(12)
	c := cursor.New(b)
	fill(b)
	if c.U1() != int(number(row(12)[:1])) || c.U2() != int(number(row(12)[1:3])) {
		t.Error("a change ahead of the reads changes an answer")
	}
	b = row(12)
	c = cursor.New(b)
	c.U1()
	first := c.Bytes(2)
	fill(b)
	if !bytes.Equal(first, row(12)[1:3]) {
		t.Error("a change behind a read changes what it gave")
	}
	if c.U4() != number(row(12)[3:7]) || !bytes.Equal(c.Bytes(5), row(12)[7:]) {
		t.Error("a change between reads changes an answer")
	}
}

func TestBytesGivesACopy(t *testing.T) {
	b := row(12)
	c := cursor.New(b)
	first := c.Bytes(3)
	fill(first[:cap(first)])
	second := c.Bytes(2)
	if !bytes.Equal(second, b[3:5]) {
		t.Error("writing into an answer changes the next one")
	}
	none := c.Bytes(0)
	fill(none[:cap(none)])
	fill(first[:cap(first)])
	_ = append(first, 1, 2, 3, 4, 5, 6, 7, 8)
	if !bytes.Equal(second, b[3:5]) {
		t.Error("writing into an answer changes another one")
	}
	if c.U1() != int(b[5]) || c.U2() != int(number(b[6:8])) || c.U4() != number(b[8:12]) {
		t.Error("writing into an answer changes what is read behind it")
	}
	if !bytes.Equal(b, row(12)) {
		t.Error("writing into an answer changes the bytes that were handed in")
	}
}

func TestCursorsKnowNothingOfOneAnother(t *testing.T) {
	b := row(6)
	c, d := cursor.New(b), cursor.New(b)
	c.Bytes(7)
	state(t, c, 0, 6, false)
	state(t, d, 0, 6, true)
	got := d.Bytes(4)
	fill(got[:cap(got)])
	e := cursor.New(b)
	state(t, e, 0, 6, true)
	if e.U4() != number(b[:4]) || d.U2() != int(number(b[4:])) {
		t.Error("one cursor changes what another one reads")
	}
}
