package code_test

import (
	"fmt"
	"testing"
)

// An access is an instruction of a local: where its name has no number, wide
// and plain ones are made of it.
type access struct {
	op    int
	local int // in its name, or -1
	words int
}

// accesses are all instructions of locals.
func accesses() []access {
	list := []access{{21, -1, 1}, {22, -1, 2}, {25, -1, 1}, {54, -1, 1}, {55, -1, 2}, {58, -1, 1}, {132, -1, 1}}
	for n := range 4 {
		list = append(list, access{26 + n, n, 1}, access{30 + n, n, 2}, access{42 + n, n, 1},
			access{59 + n, n, 1}, access{63 + n, n, 2}, access{75 + n, n, 1})
	}
	return list
}

// made makes the instruction of a local.
func (a access) made(local int, wide bool) []byte {
	step := []byte{7}
	if wide {
		step = u2(-300)
	}
	if a.op != 132 {
		step = nil
	}
	switch {
	case a.local >= 0:
		return []byte{byte(a.op)}
	case wide:
		return joined([]byte{196, byte(a.op)}, u2(local), step)
	}
	return joined([]byte{byte(a.op), byte(local)}, step)
}

func (a access) check(t *testing.T, local, locals int, wide bool) {
	t.Helper()
	m := ops(append(a.made(local, wide), returns)...)
	m.locals = locals
	m.check(t, fmt.Sprintf("opcode %d of local %d, max_locals %d, wide %v", a.op, local, locals, wide), nil, local+a.words <= locals)
}

func TestLocalsInNames(t *testing.T) {
	for _, a := range accesses() {
		if a.local < 0 {
			continue
		}
		for _, locals := range []int{0, 1, 2, 3, 4, 5, 6, 255, 300} {
			a.check(t, a.local, locals, false)
		}
	}
}

func TestLocalsOfAByte(t *testing.T) {
	for _, a := range accesses() {
		if a.local >= 0 {
			continue
		}
		for local := range 256 {
			for _, locals := range []int{0, 1, 2, 3, local - 1, local, local + 1, local + 2, local + 3, 254, 255, 256, 257, 300} {
				a.check(t, local, max(0, locals), false)
			}
		}
	}
}

func TestLocalsByWide(t *testing.T) {
	for _, a := range accesses() {
		if a.local >= 0 {
			continue
		}
		for _, local := range []int{0, 1, 2, 254, 255, 256, 257, 297, 298, 299, 300, 301, 511, 512, 32767, 32768, 65279, 65280, 65534, 65535} {
			for _, locals := range []int{0, 1, 2, local - 1, local, local + 1, local + 2, local + 3, 254, 255, 256, 257, 298, 299, 300} {
				if locals >= 0 && locals <= 300 {
					a.check(t, local, locals, true)
				}
			}
		}
	}
}

// Each number that iinc adds may be added.
func TestNumbersOfIinc(t *testing.T) {
	for n := range 256 {
		of(132, []byte{3, byte(n)}).check(t, fmt.Sprint("iinc by ", n), nil, true)
		of(196, []byte{132, 0, 3, byte(n), byte(255 - n)}).check(t, fmt.Sprint("wide iinc by ", n), nil, true)
	}
}

// Each opcode as all of a code: what lacks bytes is wrong, and what is not kept.
func TestOpcodesAlone(t *testing.T) {
	inName := map[int]bool{}
	for _, a := range accesses() {
		inName[a.op] = a.local >= 0
	}
	for op := range 256 {
		m := ops(byte(op))
		m.locals = 300
		m.check(t, fmt.Sprintf("opcode %d, max_locals 300", op), nil, alone(op) || inName[op])
		m.locals = 0
		m.check(t, fmt.Sprintf("opcode %d, max_locals 0", op), nil, alone(op))
	}
}

// alone tells whether an instruction is its opcode alone, and asks for no local.
func alone(op int) bool {
	switch {
	case op <= 10, op == 46, op == 47, op >= 50 && op <= 53, op == 79, op == 80, op >= 83 && op <= 97:
		return true
	case op >= 100 && op <= 117:
		return op%4 < 2
	case op >= 120 && op <= 131, op == 133, op == 136, op >= 145 && op <= 148:
		return true
	case op == 172, op == 173, op == 176, op == 177, op == 190, op == 191, op == 194, op == 195:
		return true
	}
	return false
}
