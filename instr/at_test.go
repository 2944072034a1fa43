package instr_test

import (
	"fmt"
	"math"
	"slices"
	"testing"

	"obelisk/api"
	"obelisk/instr"
)

// holds asks for the instruction at a place, and stops the test if it is not
// the one that is wanted.
func holds(t *testing.T, code []byte, at int, want api.Instr, wantOK bool) {
	t.Helper()
	before := slices.Clone(code[:cap(code)])
	got, ok := instr.At(code, at)
	if ok != wantOK || !same(got, want) {
		t.Fatalf("At(%s, %d): %s %v, not %s %v", brief(code), at, told(got), ok, told(want), wantOK)
	}
	if !slices.Equal(code[:cap(code)], before) {
		t.Fatalf("At(%s, %d) changed the code", brief(before), at)
	}
}

// agrees asks for the instruction at a place, and stops the test if the model
// tells another one.
func agrees(t *testing.T, code []byte, at int) {
	t.Helper()
	want, ok := model(code, at)
	holds(t, code, at, want, ok)
}

// is holds an instruction at 0, with its length.
func is(t *testing.T, code []byte, want api.Instr) {
	t.Helper()
	want.Len = len(code)
	want.Op = int(code[0])
	if code[0] == 196 {
		want.Op = int(code[1])
	}
	holds(t, code, 0, want, true)
}

// none holds that there is no instruction at a place.
func none(t *testing.T, code []byte, at int) {
	t.Helper()
	holds(t, code, at, api.Instr{}, false)
}

func brief(code []byte) string {
	return fmt.Sprintf("%d bytes % x", len(code), code[:min(len(code), 40)])
}

func told(in api.Instr) string {
	return fmt.Sprintf("{%d len %d op %d %v A %d B %d To %d %v Keys %d %v}", in.At, in.Len, in.Op, in.Wide, in.A, in.B,
		len(in.To), in.To[:min(len(in.To), 8)], len(in.Keys), in.Keys[:min(len(in.Keys), 8)])
}

// tails are bytes to stand behind an opcode.
func tails() [][]byte {
	l := [][]byte{}
	for _, b := range []byte{0, 1, 2, 0x7f, 0x80, 0xff, 21, 132} {
		l = append(l, slices.Repeat([]byte{b}, 64))
	}
	rising, mixed, zeroed := make([]byte, 64), make([]byte, 64), make([]byte, 64)
	x := uint32(7)
	for i := range rising {
		rising[i] = byte(i + 1)
		x = x*1664525 + 1013904223
		mixed[i] = byte(x >> 24)
		if i%4 == 0 {
			zeroed[i] = mixed[i]
		}
	}
	return append(l, rising, mixed, zeroed)
}

func TestTheModelKnowsJustTheKeptOpcodes(t *testing.T) {
	k := opcodes()
	for op := range 256 {
		if _, ok := forms[op]; ok != k[op] {
			t.Errorf("%d", op)
		}
	}
	if len(forms) != len(k) || len(k) != 141 {
		t.Errorf("%d %d", len(forms), len(k))
	}
}

func TestEachOpcodeCutShortAtEachByteAndAtOtherPlaces(t *testing.T) {
	for op := range 256 {
		for _, tail := range tails() {
			for ahead := range 9 {
				code := append(slices.Repeat([]byte{0xab}, ahead), byte(op))
				code = append(code, tail...)
				for n := ahead; n <= len(code); n++ {
					agrees(t, code[:n:n], ahead)
					agrees(t, code[:n], ahead) // what lies in the spare room does not count
				}
			}
		}
	}
}

func TestOpcodesWithNoughtsBehind(t *testing.T) {
	k := opcodes()
	for op := range 256 {
		code := append([]byte{byte(op)}, make([]byte, 30)...)
		_, ok := instr.At(code, 0)
		if want := k[op] && op != 196; ok != want {
			t.Errorf("opcode %d: %v, not %v", op, ok, want)
		}
	}
}

func TestPlacesThatAreNone(t *testing.T) {
	code := []byte{0, 16, 7, 177}
	for _, at := range []int{-1, -2, -4, 4, 5, 6, 8, 4096, 1 << 31, 1<<32 + 1, math.MaxInt32, math.MaxInt - 3, math.MaxInt, math.MinInt, math.MinInt + 1, math.MinInt32} {
		none(t, code, at)
		none(t, code[:4:4], at)
		none(t, nil, at)
		none(t, []byte{}, at)
	}
	none(t, nil, 0)
	none(t, []byte{}, 0)
	none(t, code[:0], 0)
	none(t, code[:2], 2)
	holds(t, code, 0, api.Instr{At: 0, Len: 1, Op: 0}, true)
	holds(t, code, 1, api.Instr{At: 1, Len: 2, Op: 16, A: 7}, true)
	holds(t, code, 2, api.Instr{At: 2, Len: 1, Op: 7, A: 4}, true) // within another one
	holds(t, code, 3, api.Instr{At: 3, Len: 1, Op: 177}, true)
}

func TestNumbersInNames(t *testing.T) {
	runs := []struct{ from, to, first int }{{2, 8, -1}, {9, 10, 0}, {26, 29, 0}, {30, 33, 0}, {42, 45, 0}, {59, 62, 0}, {63, 66, 0}, {75, 78, 0}}
	for _, r := range runs {
		for op := r.from; op <= r.to; op++ {
			is(t, []byte{byte(op)}, api.Instr{A: r.first + op - r.from})
		}
	}
}

func TestInstructionsThatAreOneByteHaveNoOperands(t *testing.T) {
	ops := []byte{0, 1, 46, 47, 50, 51, 52, 53, 79, 80, 83, 84, 85, 86, 87, 88, 89, 90, 91, 92, 93, 94, 95, 96, 97, 100, 101, 104, 105, 108, 109, 112, 113, 116, 117,
		120, 121, 122, 123, 124, 125, 126, 127, 128, 129, 130, 131, 133, 136, 145, 146, 147, 148, 172, 173, 176, 177, 190, 191, 194, 195}
	for _, op := range ops {
		is(t, []byte{op}, api.Instr{})
	}
}

func TestOperandsOfOneByte(t *testing.T) {
	for n := range 256 {
		b := byte(n)
		is(t, []byte{16, b}, api.Instr{A: int(int8(b))})
		for _, op := range []byte{18, 21, 22, 25, 54, 55, 58, 188} {
			is(t, []byte{op, b}, api.Instr{A: n})
		}
		for _, other := range []byte{0, 1, 127, 128, 255} {
			is(t, []byte{132, b, other}, api.Instr{A: n, B: int(int8(other))})
			is(t, []byte{132, other, b}, api.Instr{A: int(other), B: int(int8(b))})
		}
		is(t, []byte{197, 1, 2, b}, api.Instr{A: 258, B: n})
		is(t, []byte{185, 1, 2, b, 0}, api.Instr{A: 258, B: n})
		if b != 0 {
			none(t, []byte{185, 1, 2, 3, b}, 0)
		}
	}
}

func TestOperandsOfTwoBytes(t *testing.T) {
	entries := []byte{19, 20, 178, 179, 180, 181, 182, 183, 184, 187, 189, 192, 193}
	branches := []byte{153, 154, 155, 156, 157, 158, 159, 160, 161, 162, 163, 164, 165, 166, 167, 198, 199}
	for n := range 1 << 16 {
		h, l := byte(n>>8), byte(n)
		is(t, []byte{17, h, l}, api.Instr{A: int(int16(n))})
		is(t, []byte{197, h, l, 255}, api.Instr{A: n, B: 255})
		is(t, []byte{185, h, l, 255, 0}, api.Instr{A: n, B: 255})
		if n%251 > 1 && n > 300 && n < 65000 {
			continue
		}
		for _, op := range entries {
			is(t, []byte{op, h, l}, api.Instr{A: n})
		}
		for _, op := range branches {
			is(t, []byte{op, h, l}, api.Instr{A: int(int16(n))})
		}
	}
}

func TestBranchesFromOtherPlaces(t *testing.T) {
	for _, at := range []int{1, 2, 3, 100, 4095, 32768, 70000} {
		code := make([]byte, at+5)
		for _, offset := range []int{0, 1, -1, 3, 5, -at, -at - 1, 1 - at, 32767, -32768} {
			if offset != int(int16(offset)) {
				continue
			}
			for _, op := range []byte{153, 158, 159, 166, 167, 198, 199} {
				code[at], code[at+1], code[at+2] = op, byte(offset>>8), byte(offset)
				holds(t, code, at, api.Instr{At: at, Len: 3, Op: int(op), A: at + offset}, true)
				holds(t, code[:at+3], at, api.Instr{At: at, Len: 3, Op: int(op), A: at + offset}, true)
				none(t, code[:at+2], at)
			}
		}
		for _, offset := range []int{0, 1, -1, 5, -at, -at - 1, 32767, 32768, -32768, -32769, 1 << 24, -1 << 24, math.MaxInt32, math.MinInt32, math.MaxInt32 - 1, math.MinInt32 + 1} {
			copy(code[at:], []byte{200, byte(offset >> 24), byte(offset >> 16), byte(offset >> 8), byte(offset)})
			holds(t, code, at, api.Instr{At: at, Len: 5, Op: 200, A: at + offset}, true)
			none(t, code[:at+4], at)
		}
	}
}

func TestWide(t *testing.T) {
	short := map[int]bool{21: true, 22: true, 25: true, 54: true, 55: true, 58: true}
	for op := range 256 {
		code := []byte{196, byte(op), 0x81, 0x82, 0x83, 0x84, 0, 0}
		switch {
		case short[op]:
			holds(t, code, 0, api.Instr{Len: 4, Op: op, Wide: true, A: 0x8182}, true)
			is(t, []byte{196, byte(op), 0, 0}, api.Instr{Wide: true})
			is(t, []byte{196, byte(op), 255, 255}, api.Instr{Wide: true, A: 65535})
		case op == 132:
			holds(t, code, 0, api.Instr{Len: 6, Op: op, Wide: true, A: 0x8182, B: 0x8384 - 65536}, true)
		default:
			none(t, code, 0)
			none(t, append([]byte{196, byte(op)}, make([]byte, 30)...), 0)
		}
	}
	for _, b := range []int{0, 1, -1, 127, 128, -128, -129, 255, 256, 32767, -32768} {
		for _, a := range []int{0, 1, 255, 256, 32767, 32768, 65535} {
			is(t, []byte{196, 132, byte(a >> 8), byte(a), byte(b >> 8), byte(b)}, api.Instr{Wide: true, A: a, B: b})
		}
	}
	none(t, []byte{196}, 0)
	none(t, []byte{196, 196, 21, 0, 0}, 0)
	holds(t, []byte{9, 9, 9, 196, 21, 1, 2}, 3, api.Instr{At: 3, Len: 4, Op: 21, Wide: true, A: 258}, true)
	holds(t, []byte{9, 9, 9, 196, 21, 1, 2}, 4, api.Instr{At: 4, Len: 2, Op: 21, A: 1}, true)
}

func TestOneCallDoesNotHangOnAnother(t *testing.T) {
	code := lookup(1, 9, 3, 10, 4, 11)
	other := table(0, 5, 1, 2, 6, 7)
	for range 3 {
		agrees(t, code, 1)
		agrees(t, other, 0)
		agrees(t, []byte{196, 132, 1, 2, 3, 4}, 0)
		agrees(t, []byte{3}, 0)
		agrees(t, []byte{11}, 0)
	}
}

func TestAnyBytes(t *testing.T) {
	x := uint64(88172645463325252)
	next := func() uint64 {
		x ^= x << 13
		x ^= x >> 7
		x ^= x << 17
		return x
	}
	favoured := []byte{0, 0, 0, 0, 1, 255, 170, 171, 196, 185, 132, 200}
	for range 200000 {
		code := make([]byte, next()%48)
		for i := range code {
			code[i] = byte(next())
			if next()%2 == 0 {
				code[i] = favoured[next()%uint64(len(favoured))]
			}
		}
		agrees(t, code, int(next()%50)-1)
	}
}
