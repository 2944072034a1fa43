package code_test

import (
	"fmt"
	"math"
	"slices"
	"testing"
)

// branches are the opcodes of instructions with an offset.
func branches() []int {
	list := []int{198, 199, 200}
	for op := 153; op <= 167; op++ {
		list = append(list, op)
	}
	return list
}

// offset is what stands behind the opcode of a branch.
func offset(op, n int) []byte {
	if op == 200 {
		return u4(n)
	}
	return u2(n)
}

// around makes a body with instructions ahead of one and behind it, and tells
// the places where one begins.
func around(op int, operands func(w *writer) []byte) ([]byte, int, []int) {
	w := &writer{}
	begins := []int{w.put(nop), w.put(17, u2(300)), w.put(196, []byte{21}, u2(1))}
	at := w.put(op, operands(w))
	begins = append(begins, at, w.put(16, []byte{1}), w.put(17, u2(0)), w.put(returns))
	return w.code, at, begins
}

func TestTargetsOfBranches(t *testing.T) {
	for _, op := range branches() {
		for n := -20; n <= 20; n++ {
			code, at, begins := around(op, func(*writer) []byte { return offset(op, n) })
			what := fmt.Sprintf("opcode %d at %d of %d by %d", op, at, len(code), n)
			ops(code...).check(t, what, nil, slices.Contains(begins, at+n))
		}
		far := []int{-32768, -32767, -4096, -257, -256, -255, -129, -128, 127, 128, 255, 256, 4095, 4096, 32766, 32767}
		if op == 200 {
			far = append(far, math.MinInt32, math.MinInt32+1, -65536, -65535, 65535, 65536, 1<<24, math.MaxInt32-1, math.MaxInt32)
		}
		for _, n := range far {
			code, at, _ := around(op, func(*writer) []byte { return offset(op, n) })
			ops(code...).check(t, fmt.Sprintf("opcode %d at %d by %d", op, at, n), nil, false)
		}
	}
}

// A branch as all of a code: only to itself, and not within itself.
func TestBranchAlone(t *testing.T) {
	for _, op := range branches() {
		for n := -8; n <= 8; n++ {
			ops(joined([]byte{byte(op)}, offset(op, n))...).check(t, fmt.Sprintf("opcode %d by %d alone", op, n), nil, n == 0)
		}
	}
}

func TestBranchesThroughLongCode(t *testing.T) {
	for _, op := range branches() {
		size := 1 + len(offset(op, 0))
		for _, at := range []int{0, 1, 2000, 4096 - size - 1, 4096 - size} {
			for _, to := range []int{-1, 0, at - 1, at, at + 1, at + size - 1, at + size, 4094, 4095, 4096, 4097} {
				code := make([]byte, 4096)
				code[at] = byte(op)
				copy(code[at+1:], offset(op, to-at))
				is := to >= 0 && to < 4096 && (to <= at || to >= at+size)
				ops(code...).check(t, fmt.Sprintf("opcode %d at %d to %d", op, at, to), nil, is)
			}
		}
	}
}

// choice makes the operands of a switch, of these targets from its own place:
// the default's first.
func choice(w *writer, op int, by []int) []byte {
	b := joined(w.pad(), u4(by[0]))
	if op == 170 {
		b = joined(b, u4(-1), u4(len(by)-3))
	} else {
		b = joined(b, u4(len(by)-1))
	}
	for i, n := range by[1:] {
		if op == 171 {
			b = joined(b, u4(i*i-3))
		}
		b = joined(b, u4(n))
	}
	return b
}

func TestTargetsOfSwitches(t *testing.T) {
	for _, op := range []int{170, 171} {
		for which := range 4 {
			offsets := []int{math.MinInt32, -65536, -4096, 255, 256, 4096, 65535, 65536, math.MaxInt32}
			for n := -12; n <= 60; n++ {
				offsets = append(offsets, n)
			}
			for _, n := range offsets {
				by := []int{0, 0, 0, 0}
				by[which] = n
				code, at, begins := around(op, func(w *writer) []byte { return choice(w, op, by) })
				what := fmt.Sprintf("opcode %d at %d of %d by %v", op, at, len(code), by)
				ops(code...).check(t, what, nil, slices.Contains(begins, at+n))
			}
		}
	}
}

func TestSwitchesOfTheDefaultAlone(t *testing.T) {
	for n := -12; n <= 30; n++ {
		code, at, begins := around(171, func(w *writer) []byte { return choice(w, 171, []int{n}) })
		ops(code...).check(t, fmt.Sprint("lookupswitch without keys by ", n), nil, slices.Contains(begins, at+n))
	}
}

// As many targets as there may be: each of them is asked.
func TestSwitchesOfManyTargets(t *testing.T) {
	for op, most := range map[int]int{170: 1000, 171: 510} {
		by := make([]int, most)
		w := &writer{}
		w.put(op, choice(w, op, by))
		ops(w.code...).check(t, fmt.Sprintf("opcode %d of %d targets", op, most), nil, true)
		for _, which := range []int{0, 1, 2, most / 2, most - 2, most - 1} {
			for _, n := range []int{-1, 1, len(w.code) - 1, len(w.code)} {
				by := make([]int, most)
				by[which] = n
				w := &writer{}
				w.put(op, choice(w, op, by))
				ops(w.code...).check(t, fmt.Sprintf("opcode %d, target %d of %d by %d", op, which, most, n), nil, false)
			}
		}
	}
	w := &writer{}
	w.put(170, choice(w, 170, make([]int, 1001)))
	ops(w.code...).check(t, "tableswitch of 1,001 targets", nil, false)
}

func TestPadding(t *testing.T) {
	for _, op := range []int{170, 171} {
		for ahead := range 4 {
			w := &writer{code: make([]byte, ahead)}
			pad := len(w.pad())
			at := w.put(op, choice(w, op, []int{0, 0}))
			for i := range pad {
				for _, b := range []byte{0, 1, 128, 255} {
					code := slices.Clone(w.code)
					code[at+1+i] = b
					ops(code...).check(t, fmt.Sprintf("opcode %d at %d, its padding's byte %d is %d", op, at, i, b), nil, b == 0)
				}
			}
			long := slices.Insert(slices.Clone(w.code), at+1, 0)
			ops(long...).check(t, fmt.Sprintf("opcode %d at %d with a nought too many", op, at), nil, false)
		}
	}
}

func TestLowAndHigh(t *testing.T) {
	numbers := []int{math.MinInt32, math.MinInt32 + 1, -2, -1, 0, 1, 2, math.MaxInt32 - 1, math.MaxInt32}
	for _, low := range numbers {
		for _, high := range numbers {
			for n := range 6 {
				code := joined([]byte{170, 0, 0, 0}, u4(0), u4(low), u4(high), make([]byte, 4*n))
				is := low <= high && high-low+1 <= n
				if is {
					code = code[:16+4*(high-low+1)]
				}
				ops(code...).check(t, fmt.Sprintf("tableswitch from %d to %d with %d targets", low, high, n), nil, is)
			}
		}
	}
}

func TestKeysRise(t *testing.T) {
	numbers := []int{math.MinInt32, -2, -1, 0, 1, math.MaxInt32}
	for _, a := range numbers {
		for _, b := range numbers {
			for _, c := range numbers {
				code := joined([]byte{171, 0, 0, 0}, u4(0), u4(3), u4(a), u4(0), u4(b), u4(0), u4(c), u4(0))
				ops(code...).check(t, fmt.Sprint("lookupswitch of the keys ", a, b, c), nil, a < b && b < c)
			}
		}
	}
	for _, n := range []int{math.MinInt32, -1, 0, 1, 2, 3, 4, 1000, math.MaxInt32} {
		code := joined([]byte{171, 0, 0, 0}, u4(0), u4(n), u4(1), u4(0), u4(2), u4(0), u4(3), u4(0))
		if n == 0 || n == 1 || n == 2 {
			code = code[:12+8*n]
		}
		ops(code...).check(t, fmt.Sprint("lookupswitch of ", n, " keys"), nil, n >= 0 && n <= 3)
	}
}

// Instructions that are not kept, and such that lack bytes, wherever they stand.
func TestNotKept(t *testing.T) {
	gone := []int{168, 169, 186, 11, 12, 13, 14, 15, 23, 24, 34, 41, 48, 49, 56, 57, 67, 74, 81, 82, 98, 99, 102, 103, 106, 107, 110, 111, 114, 115, 118, 119, 134, 135, 137, 144, 149, 152, 174, 175, 201, 202, 203, 253, 254, 255}
	for _, op := range gone {
		for _, b := range [][]byte{{byte(op)}, {byte(op), nop, nop, nop, nop}, {nop, nop, byte(op), nop, nop, nop, nop}, {nop, nop, byte(op)}} {
			ops(b...).check(t, fmt.Sprint("opcode ", op, " in ", b), nil, false)
		}
	}
	for op := range 256 {
		if slices.Contains([]int{21, 22, 25, 54, 55, 58, 132}, op) {
			continue
		}
		ops(196, byte(op), 0, 0, 0, 0).check(t, fmt.Sprint("wide of ", op), nil, false)
	}
}

func TestInstructionsThatLackBytes(t *testing.T) {
	p := newPool()
	face := p.ofFace("m", "()V")
	list := p.read(t)
	for _, whole := range [][]byte{
		{16, 1}, {17, 1, 1}, {21, 0}, {132, 0, 0}, {196, 21, 0, 0}, {196, 132, 0, 0, 0, 0}, {188, 10},
		{153, 0, 0}, {167, 0, 0}, {200, 0, 0, 0, 0}, {185, byte(face >> 8), byte(face), 1, 0},
		joined([]byte{170, 0, 0, 0}, make([]byte, 16)), joined([]byte{171, 0, 0, 0}, make([]byte, 8)),
	} {
		ops(whole...).check(t, fmt.Sprint(whole), list, true)
		for n := 1; n < len(whole); n++ {
			ops(whole[:n]...).check(t, fmt.Sprint(whole, " up to ", n), list, false)
			ops(slices.Concat([]byte{0, 0, 0, 0}, whole[:n])...).check(t, fmt.Sprint(whole, " up to ", n, " at the end"), list, false)
		}
	}
}
