package instr_test

import (
	"encoding/binary"
	"slices"
	"strconv"
	"strings"

	"obelisk/api"
)

// kept is what M3 says of the opcodes, in its own words.
const kept = "0 to 10, 16 to 22, 25 to 33, 42 to 47, 50 to 55, 58 to 66, 75 to 80, 83 to 97, 100, 101, 104, 105, 108, 109, 112, 113, 116, 117, 120 to 133, 136, 145 to 148, 153 to 167, 170 to 173, 176 to 185, 187 to 200"

// opcodes are the numbers that are kept.
func opcodes() map[int]bool {
	m := map[int]bool{}
	for part := range strings.SplitSeq(kept, ", ") {
		first, last, isRange := strings.Cut(part, " to ")
		if !isRange {
			last = first
		}
		for op := number(first); op <= number(last); op++ {
			m[op] = true
		}
	}
	return m
}

func number(s string) int {
	n, err := strconv.Atoi(s)
	if err != nil {
		panic(err)
	}
	return n
}

// mnemonics are the instructions by their names, in the order of their opcodes
// from the number at the beginning of a line on. Behind a colon stands what
// follows the opcode: s and u are numbers with and without a sign, j offsets of
// branches, each with how many bytes it takes; 0 is a nought; the first two are
// A and B.
const mnemonics = `
0 nop aconst_null iconst_m1 iconst_0 iconst_1 iconst_2 iconst_3 iconst_4 iconst_5 lconst_0 lconst_1
16 bipush:s1 sipush:s2 ldc:u1 ldc_w:u2 ldc2_w:u2 iload:u1 lload:u1
25 aload:u1 iload_0 iload_1 iload_2 iload_3 lload_0 lload_1 lload_2 lload_3
42 aload_0 aload_1 aload_2 aload_3 iaload laload
50 aaload baload caload saload istore:u1 lstore:u1
58 astore:u1 istore_0 istore_1 istore_2 istore_3 lstore_0 lstore_1 lstore_2 lstore_3
75 astore_0 astore_1 astore_2 astore_3 iastore lastore
83 aastore bastore castore sastore pop pop2 dup dup_x1 dup_x2 dup2 dup2_x1 dup2_x2 swap iadd ladd
100 isub lsub
104 imul lmul
108 idiv ldiv
112 irem lrem
116 ineg lneg
120 ishl lshl ishr lshr iushr lushr iand land ior lor ixor lxor iinc:u1,s1 i2l
136 l2i
145 i2b i2c i2s lcmp
153 ifeq:j2 ifne:j2 iflt:j2 ifge:j2 ifgt:j2 ifle:j2
159 if_icmpeq:j2 if_icmpne:j2 if_icmplt:j2 if_icmpge:j2 if_icmpgt:j2 if_icmple:j2 if_acmpeq:j2 if_acmpne:j2 goto:j2
170 tableswitch:T lookupswitch:L ireturn lreturn
176 areturn return getstatic:u2 putstatic:u2 getfield:u2 putfield:u2
182 invokevirtual:u2 invokespecial:u2 invokestatic:u2 invokeinterface:u2,u1,0
187 new:u2 newarray:u1 anewarray:u2 arraylength athrow checkcast:u2 instanceof:u2 monitorenter monitorexit
196 wide:W multianewarray:u2,u1 ifnull:j2 ifnonnull:j2 goto_w:j4
`

// A form is an instruction's name and what follows its opcode.
type form struct {
	name    string
	follows string
}

var forms = readForms()

func readForms() map[int]form {
	m := map[int]form{}
	for line := range strings.SplitSeq(strings.TrimSpace(mnemonics), "\n") {
		words := strings.Fields(line)
		for i, w := range words[1:] {
			name, follows, _ := strings.Cut(w, ":")
			m[number(words[0])+i] = form{name, follows}
		}
	}
	return m
}

// A reader reads a code from a place on; bad: bytes lacked.
type reader struct {
	code []byte
	at   int
	bad  bool
}

// take gives the next n bytes as a number without a sign.
func (r *reader) take(n int) uint64 {
	if r.bad || n > len(r.code)-r.at {
		r.bad = true
		return 0
	}
	var b [8]byte
	copy(b[8-n:], r.code[r.at:])
	r.at += n
	return binary.BigEndian.Uint64(b[:])
}

// signed gives the next n bytes as a number with a sign.
func (r *reader) signed(n int) int64 {
	u := r.take(n) << (64 - 8*n)
	return int64(u) >> (64 - 8*n)
}

// model tells an instruction by a reader that knows nothing of the package.
func model(code []byte, at int) (api.Instr, bool) {
	if at < 0 || at >= len(code) {
		return api.Instr{}, false
	}
	r := &reader{code: code, at: at}
	in := api.Instr{At: at, Op: int(r.take(1))}
	f, ok := forms[in.Op]
	switch {
	case !ok:
	case f.follows == "W":
		ok = modelWide(r, &in)
	case f.follows == "T" || f.follows == "L":
		ok = modelSwitch(r, &in, f.follows == "T")
	default:
		in.A, in.B, ok = operands(r, at, f)
	}
	if !ok || r.bad {
		return api.Instr{}, false
	}
	in.Len = r.at - at
	return in, true
}

// operands gives A and B of an instruction.
func operands(r *reader, at int, f form) (int, int, bool) {
	if f.follows == "" {
		_, tail, _ := strings.Cut(f.name, "_")
		if tail == "m1" {
			return -1, 0, true
		}
		n, _ := strconv.Atoi(tail) // no number: 0
		return n, 0, true
	}
	var got [3]int
	for i, kind := range strings.Split(f.follows, ",") {
		switch kind[0] {
		case '0':
			if r.take(1) != 0 {
				return 0, 0, false
			}
		case 'u':
			got[i] = int(r.take(number(kind[1:])))
		case 's':
			got[i] = int(r.signed(number(kind[1:])))
		case 'j':
			got[i] = at + int(r.signed(number(kind[1:])))
		}
	}
	return got[0], got[1], true
}

func modelWide(r *reader, in *api.Instr) bool {
	in.Wide = true
	in.Op = int(r.take(1))
	switch forms[in.Op].name {
	case "iload", "lload", "aload", "istore", "lstore", "astore":
		in.A = int(r.take(2))
	case "iinc":
		in.A = int(r.take(2))
		in.B = int(r.signed(2))
	default:
		return false
	}
	return true
}

func modelSwitch(r *reader, in *api.Instr, isTable bool) bool {
	for r.at%4 != 0 && !r.bad {
		if r.take(1) != 0 {
			return false
		}
	}
	target := func() { in.To = append(in.To, in.At+int(r.signed(4))) }
	target()
	if isTable {
		low, high := r.signed(4), r.signed(4)
		in.Keys = []int64{low, high}
		for k := low; k <= high && !r.bad; k++ {
			target()
		}
		return low <= high && len(in.To) <= 1000
	}
	n := r.signed(4)
	for i := int64(0); i < n && !r.bad; i++ {
		in.Keys = append(in.Keys, r.signed(4))
		target()
	}
	return n >= 0 && len(in.To) <= 1000 && slices.IsSorted(in.Keys) && len(slices.Compact(slices.Clone(in.Keys))) == len(in.Keys)
}

// same tells whether two instructions are alike in each field; a nil list is an
// empty one.
func same(a, b api.Instr) bool {
	return a.At == b.At && a.Len == b.Len && a.Op == b.Op && a.Wide == b.Wide && a.A == b.A && a.B == b.B &&
		slices.Equal(a.To, b.To) && slices.Equal(a.Keys, b.Keys)
}
