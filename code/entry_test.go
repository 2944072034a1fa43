package code_test

import (
	"fmt"
	"math"
	"slices"
	"strings"
	"testing"

	"obelisk/api"
	"obelisk/code"
	"obelisk/cpool"
	"obelisk/descr"
)

// ofEntries are the opcodes of instructions that name an entry of the pool.
func ofEntries() []int {
	return []int{18, 19, 20, 178, 179, 180, 181, 182, 183, 184, 185, 187, 189, 192, 193, 197}
}

// naming makes a body of an instruction that names an entry; number is what
// stands behind the entry, where something does.
func naming(op, entry, number int) body {
	switch op {
	case 18:
		return of(op, []byte{byte(entry)})
	case 185:
		return of(op, u2(entry), []byte{byte(number), 0})
	case 197:
		return of(op, u2(entry), []byte{byte(number)})
	}
	return of(op, u2(entry))
}

// allowed tells, in the words of M3, the tags of what an instruction may name.
func allowed(op, major int) []int {
	switch op {
	case 18, 19: // ldc, ldc_w
		return []int{api.TInt, api.TString}
	case 20: // ldc2_w
		return []int{api.TLong}
	case 178, 179, 180, 181: // getstatic to putfield
		return []int{api.TField}
	case 182: // invokevirtual
		return []int{api.TMethod}
	case 183, 184: // invokespecial, invokestatic
		if major == 52 {
			return []int{api.TMethod, api.TIMethod}
		}
		return []int{api.TMethod}
	case 185: // invokeinterface
		return []int{api.TIMethod}
	}
	return []int{api.TClass} // new, anewarray, checkcast, instanceof, multianewarray
}

func (m body) read(p []api.Const) (api.Code, bool) { return code.Read(m.bytes(), p, 52, 0) }

func TestEntries(t *testing.T) {
	p := newPool()
	entries := odd(p)
	list := p.read(t)
	for _, op := range ofEntries() {
		for i := range entries {
			if op == 18 && i > 255 {
				continue
			}
			for _, major := range []int{50, 51, 52} {
				is := i < len(list) && slices.Contains(allowed(op, major), list[i].Tag)
				class, _ := cpool.Class(list, i)
				_, name, desc, _ := cpool.Member(list, i)
				number := 1
				if op == 185 {
					number = max(0, descr.Args(desc)+1)
				}
				switch {
				case name == "<init>" && op != 183,
					op == 187 && class != "" && class[0] == '[',
					op == 189 && strings.HasPrefix(class, array(16)),
					op == 197 && class != "" && class[0] != '[':
					is = false
				}
				want(t, fmt.Sprintf("opcode %d of entry %d, version %d", op, i, major), naming(op, i, number).bytes(), list, major, 0, is)
			}
		}
	}
}

func TestEntriesWithoutPool(t *testing.T) {
	for _, op := range ofEntries() {
		for _, i := range []int{0, 1, 2, 255} {
			naming(op, i, 1).check(t, fmt.Sprintf("opcode %d of entry %d", op, i), nil, false)
			naming(op, i, 1).check(t, fmt.Sprintf("opcode %d of entry %d", op, i), []api.Const{{}}, false)
		}
	}
}

func TestVersions(t *testing.T) {
	p := newPool()
	face, class := p.ofFace("m", "()V"), p.method("m", "()V")
	list := p.read(t)
	for _, op := range []int{182, 183, 184, 185} {
		for _, major := range []int{math.MinInt64, -52, 0, 1, 45, 49, 50, 51, 52, 53, 54, 65535, 65536 + 52, math.MaxInt64} {
			ofFace := op == 185 || major == 52 && op != 182
			want(t, fmt.Sprintf("opcode %d of an interface's method, version %d", op, major), naming(op, face, 1).bytes(), list, major, 0, ofFace)
			want(t, fmt.Sprintf("opcode %d of a class's method, version %d", op, major), naming(op, class, 1).bytes(), list, major, 0, op != 185)
		}
	}
}

func TestConstructors(t *testing.T) {
	p := newPool()
	var made []int
	for _, desc := range []string{"()V", "(J)V", "(Ljava/lang/Object;[I)V"} {
		made = append(made, p.method("<init>", desc))
	}
	near := []int{p.method("init", "()V"), p.method("Init", "()V"), p.method("_init_", "()V")}
	list := p.read(t)
	for _, major := range []int{50, 51, 52} {
		for _, op := range []int{182, 183, 184} {
			for _, i := range made {
				want(t, fmt.Sprintf("opcode %d of <init>, version %d", op, major), naming(op, i, 1).bytes(), list, major, 0, op == 183)
			}
			for _, i := range near {
				want(t, fmt.Sprintf("opcode %d of a name like <init>, version %d", op, major), naming(op, i, 1).bytes(), list, major, 0, true)
			}
		}
	}
}

// No pool that is read holds these: an interface's method that is named so, and
// one whose descriptor is a field's.
func TestConstructorsOfInterfaces(t *testing.T) {
	list := []api.Const{{},
		{Tag: api.TUtf8, Text: "<init>"}, {Tag: api.TUtf8, Text: "()V"}, {Tag: api.TUtf8, Text: "a/I"},
		{Tag: api.TClass, A: 3}, {Tag: api.TName, A: 1, B: 2}, {Tag: api.TIMethod, A: 4, B: 5},
	}
	for _, major := range []int{50, 51, 52} {
		for _, op := range []int{182, 184, 185} {
			c, ok := code.Read(naming(op, 6, 1).bytes(), list, major, 0)
			if ok || !isZero(c) {
				t.Errorf("P7.1, opcode %d of an interface's <init>, version %d: %v", op, major, ok)
			}
		}
	}
	list[5].B = 3
	list[5].A = 3
	for count := range 256 {
		if _, ok := code.Read(naming(185, 6, count).bytes(), list, 52, 0); ok {
			t.Errorf("P7.1, invokeinterface of what is no method, count %d", count)
		}
	}
}

func TestCounts(t *testing.T) {
	for desc, words := range map[string]int{
		"()V": 0, "()J": 0, "(I)V": 1, "(J)V": 2, "(IJ)V": 3, "(JI)I": 3, "(JJ)J": 4, "(ZBSC)V": 4,
		"([J)V": 1, "([[JJ[J)[J": 4, "(Ljava/lang/Object;)V": 1, "(Ljava/lang/Object;JLJ;)V": 4, "(LJJ;)V": 1, "(L);J)V": 3,
		"(" + strings.Repeat("I", 253) + ")V":       253,
		"(" + strings.Repeat("I", 254) + ")V":       254,
		"(" + strings.Repeat("J", 127) + ")V":       254,
		"(" + strings.Repeat("I", 255) + ")V":       255,
		"(" + strings.Repeat("J", 127) + "I)V":      255,
		"(" + strings.Repeat("J", 128) + ")V":       256,
		"(" + strings.Repeat("I", 511) + ")V":       511,
		"(" + strings.Repeat("[[[J", 1000) + ")[[J": 1000,
		"(" + strings.Repeat("J", 2000) + ")J":      4000,
	} {
		p := newPool()
		i := p.ofFace("m", desc)
		list := p.read(t)
		for count := range 256 {
			naming(185, i, count).check(t, fmt.Sprintf("invokeinterface of %.50s with count %d", desc, count), list, count == words+1)
		}
	}
}

// What was met once is not taken for what comes next.
func TestCountsOfSeveral(t *testing.T) {
	p := newPool()
	none, one, long := p.ofFace("m", "()V"), p.ofFace("m", "(I)V"), p.ofFace("m", "(J)V")
	list := p.read(t)
	for a := range 5 {
		for b := range 5 {
			for c := range 5 {
				m := ops(joined([]byte{185}, u2(none), []byte{byte(a), 0, 185}, u2(one), []byte{byte(b), 0, 185}, u2(long), []byte{byte(c), 0, 185}, u2(one), []byte{2, 0})...)
				m.check(t, fmt.Sprint("counts ", a, b, c, 2), list, a == 1 && b == 2 && c == 3)
			}
		}
	}
}

func TestNoughtBehindCount(t *testing.T) {
	p := newPool()
	face := p.ofFace("m", "()V")
	for b := range 256 {
		of(185, u2(face), []byte{1, byte(b)}).check(t, fmt.Sprint("invokeinterface with ", b, " behind"), p.read(t), b == 0)
	}
}

func TestClasses(t *testing.T) {
	p := newPool()
	at := map[string]int{}
	for _, elem := range []string{"I", "J", "Z", "La/A;", "Ljava/lang/Object;"} {
		at[strings.TrimSuffix(strings.TrimPrefix(elem, "L"), ";")] = 0
		for _, dims := range []int{1, 2, 3, 14, 15, 16, 17, 18, 253, 254, 255} {
			at[array(dims)+elem] = dims
		}
	}
	for name := range at {
		p.class(name)
	}
	list := p.read(t)
	for name, dims := range at {
		i := p.class(name)
		what := fmt.Sprintf("of %.30s, of %d dimensions", name, dims)
		naming(187, i, 0).check(t, "new "+what, list, dims == 0)
		naming(189, i, 0).check(t, "anewarray "+what, list, dims <= 15)
		naming(192, i, 0).check(t, "checkcast "+what, list, true)
		naming(193, i, 0).check(t, "instanceof "+what, list, true)
		for given := range 256 {
			is := given >= 1 && given <= 16 && given <= dims
			naming(197, i, given).check(t, fmt.Sprint(given, " of multianewarray ", what), list, is)
		}
	}
}

func TestNewarray(t *testing.T) {
	for kind := range 256 {
		is := map[int]bool{4: true, 5: true, 8: true, 9: true, 10: true, 11: true}[kind]
		of(188, []byte{byte(kind)}).check(t, fmt.Sprint("newarray of ", kind), nil, is)
	}
}

// Each instruction of a body is asked, wherever it stands.
func TestWrongInstructionAnywhere(t *testing.T) {
	p := newPool()
	num, field, class := p.num(1), p.field("f", "I"), p.class("a/A")
	list := p.read(t)
	good := []byte{18, byte(num), 178, 0, byte(field), 193, 0, byte(class), nop}
	for _, wrong := range [][]byte{{18, byte(class)}, {178, 0, byte(num)}, {193, 0, byte(field)}, {188, 7}, {21, 4}, {66}, {132, 4, 0}, {167, 0, 1}} {
		for _, b := range [][]byte{wrong, joined(wrong, good), joined(good, wrong, good), joined(good, wrong)} {
			ops(b...).check(t, fmt.Sprint(wrong, " in ", b), list, false)
		}
	}
	ops(good...).check(t, fmt.Sprint(good), list, true)
	ops(joined(good, good)...).check(t, fmt.Sprint(good, " twice"), list, true)
}

// Pools that no class file has: the call ends, whatever their entries name.
func TestPoolsThatAreNone(t *testing.T) {
	numbers := []int{math.MinInt64, -1, 0, 1, 2, 3, math.MaxInt64}
	for _, tag := range []int{math.MinInt64, -1, 0, 1, 3, 5, 7, 8, 9, 10, 11, 12, 13, 255, math.MaxInt64} {
		for _, a := range numbers {
			for _, b := range numbers {
				list := []api.Const{{Tag: tag, A: a, B: b}, {Tag: tag, A: b, B: a, Num: 1, Text: "[["}, {Tag: api.TClass, A: a}, {Tag: api.TName, A: a, B: b}}
				for _, op := range ofEntries() {
					for i := range len(list) + 1 {
						m := naming(op, i, 1)
						m.rows = []api.Handler{{From: 0, To: 1, At: 0, Type: i}}
						m.attributes = []attribute{{i, nil, 0}}
						if c, ok := m.read(list); !ok && !isZero(c) {
							t.Fatalf("P0.2, opcode %d: %s", op, short(c))
						}
					}
				}
			}
		}
	}
}

// Each of many instructions names a method of its own, all of one long
// descriptor.
func TestLongDescriptorNamedOften(t *testing.T) {
	p := newPool()
	desc := "(" + strings.Repeat(array(255)+"I", 250) + ")V"
	var good []byte
	for n := range 300 {
		i := p.ofFace(fmt.Sprint("m", n), desc)
		good = joined(good, []byte{185}, u2(i), []byte{251, 0, 185}, u2(i), []byte{251, 0})
	}
	wrong := joined(good[:len(good)-2], []byte{250, 0})
	ops(good...).check(t, "600 calls", p.read(t), true)
	ops(wrong...).check(t, "600 calls, the last one's count wrong", p.read(t), false)
}
