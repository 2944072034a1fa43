package code_test

import (
	"encoding/binary"
	"regexp"
	"strconv"
	"strings"

	"obelisk/api"
	"obelisk/cpool"
	"obelisk/descr"
	"obelisk/instr"
	"obelisk/stackmap"
)

// mnemonics are the instructions that have a rule of their own, by their names,
// in the order of their opcodes from the number at the beginning of a line on.
const mnemonics = `
18 ldc ldc_w ldc2_w iload lload
25 aload iload_0 iload_1 iload_2 iload_3 lload_0 lload_1 lload_2 lload_3
42 aload_0 aload_1 aload_2 aload_3
54 istore lstore
58 astore istore_0 istore_1 istore_2 istore_3 lstore_0 lstore_1 lstore_2 lstore_3
75 astore_0 astore_1 astore_2 astore_3
132 iinc
153 ifeq ifne iflt ifge ifgt ifle if_icmpeq if_icmpne if_icmplt if_icmpge if_icmpgt if_icmple if_acmpeq if_acmpne goto
170 tableswitch lookupswitch
178 getstatic putstatic getfield putfield invokevirtual invokespecial invokestatic invokeinterface
187 new newarray anewarray
192 checkcast instanceof
197 multianewarray ifnull ifnonnull goto_w
`

var names = readNames()

func readNames() map[int]string {
	m := map[int]string{}
	for line := range strings.SplitSeq(strings.TrimSpace(mnemonics), "\n") {
		words := strings.Fields(line)
		first, err := strconv.Atoi(words[0])
		if err != nil {
			panic(err)
		}
		for i, w := range words[1:] {
			m[first+i] = w
		}
	}
	return m
}

// Names of instructions of one rule.
var (
	ofLocal  = regexp.MustCompile(`^(iinc|[ila](load|store)(_[0-3])?)$`)
	ofLong   = regexp.MustCompile(`^l(load|store)`)
	ofBranch = regexp.MustCompile(`^(if.*|goto|goto_w)$`)
	ofSwitch = regexp.MustCompile(`switch$`)
	ofEntry  = regexp.MustCompile(`^(ldc|get|put|invoke|new$|anew|multi|check|instanceof)`)
)

// A facts is what the rules of an instruction ask.
type facts struct {
	pool   []api.Const
	major  int
	locals int
	places map[int]bool
}

// sound tells whether an instruction is as it must be.
func (f facts) sound(in api.Instr) bool {
	name := names[in.Op]
	switch {
	case ofLong.MatchString(name):
		return in.A+1 < f.locals
	case ofLocal.MatchString(name):
		return in.A < f.locals
	case ofBranch.MatchString(name):
		return f.places[in.A]
	case ofSwitch.MatchString(name):
		for _, to := range in.To {
			if !f.places[to] {
				return false
			}
		}
		return true
	case name == "newarray":
		return strings.Contains(" 4 5 8 9 10 11 ", " "+strconv.Itoa(in.A)+" ")
	case ofEntry.MatchString(name):
		return in.A < len(f.pool) && f.soundEntry(name, in)
	}
	return true
}

// soundEntry is sound of an instruction that names an entry of the pool.
func (f facts) soundEntry(name string, in api.Instr) bool {
	tag := f.pool[in.A].Tag
	class, _ := cpool.Class(f.pool, in.A)
	dims := strings.Count(class, "[")
	_, called, desc, _ := cpool.Member(f.pool, in.A)
	init := called == "<init>"
	faceToo := tag == api.TMethod || tag == api.TIMethod && f.major == 52
	switch name {
	case "ldc", "ldc_w":
		return tag == api.TInt || tag == api.TString
	case "ldc2_w":
		return tag == api.TLong
	case "getstatic", "putstatic", "getfield", "putfield":
		return tag == api.TField
	case "invokevirtual":
		return tag == api.TMethod && !init
	case "invokespecial":
		return faceToo
	case "invokestatic":
		return faceToo && !init
	case "invokeinterface":
		return tag == api.TIMethod && descr.Args(desc) == in.B-1
	case "new":
		return tag == api.TClass && dims == 0
	case "anewarray":
		return tag == api.TClass && dims <= 15
	case "checkcast", "instanceof":
		return tag == api.TClass
	case "multianewarray":
		return tag == api.TClass && 1 <= in.B && in.B <= min(16, dims)
	}
	panic("no rule of " + name)
}

// soundRow tells whether a row of handlers is as it must be.
func (f facts) soundRow(h api.Handler, end int) bool {
	kind := h.Type < len(f.pool) && f.pool[h.Type].Tag == api.TClass
	return f.places[h.From] && f.places[h.At] && (h.To == end || f.places[h.To]) && h.From < h.To && (h.Type == 0 || kind)
}

// A taker takes bytes from the front; lacks: there were too few.
type taker struct {
	left  []byte
	lacks bool
}

func (k *taker) bytes(n int) []byte {
	if k.lacks || n > len(k.left) {
		k.lacks = true
		return nil
	}
	b := k.left[:n]
	k.left = k.left[n:]
	return b
}

func (k *taker) u2() int {
	if b := k.bytes(2); b != nil {
		return int(binary.BigEndian.Uint16(b))
	}
	return 0
}

func (k *taker) u4() int { return k.u2()<<16 | k.u2() }

// model tells a body by a reader that knows nothing of the package: the layers
// below tell it what instructions there are, and what a StackMapTable holds.
func model(b []byte, p []api.Const, major, args int) (api.Code, bool) {
	k := &taker{left: b}
	c := api.Code{MaxStack: k.u2(), MaxLocals: k.u2()}
	c.Bytes = append(c.Bytes, k.bytes(k.u4())...)
	for n := k.u2(); n > 0 && !k.lacks; n-- {
		c.Handlers = append(c.Handlers, api.Handler{From: k.u2(), To: k.u2(), At: k.u2(), Type: k.u2()})
	}
	tables := 0
	for n := k.u2(); n > 0 && !k.lacks; n-- {
		name := k.u2()
		contents := k.bytes(k.u4())
		if k.lacks || name >= len(p) || p[name].Tag != api.TUtf8 {
			return api.Code{}, false
		}
		if p[name].Text == "StackMapTable" {
			maps, ok := stackmap.Read(contents, p)
			tables++
			if !ok || tables > 1 {
				return api.Code{}, false
			}
			c.Maps = maps
		}
	}
	all, ok := instr.All(c.Bytes)
	if !ok || k.lacks || len(k.left) > 0 || c.MaxStack > 300 || c.MaxLocals > 300 || args > c.MaxLocals {
		return api.Code{}, false
	}
	f := facts{p, major, c.MaxLocals, map[int]bool{}}
	for _, in := range all {
		f.places[in.At] = true
	}
	for _, in := range all {
		if !f.sound(in) {
			return api.Code{}, false
		}
	}
	for _, h := range c.Handlers {
		if !f.soundRow(h, len(c.Bytes)) {
			return api.Code{}, false
		}
	}
	return c, true
}
