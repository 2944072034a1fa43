package code_test

import (
	"fmt"
	"slices"
	"testing"

	"obelisk/api"
	"obelisk/code"
)

const (
	nop     = 0
	returns = 177
)

// An attribute is one of a body; more is what the length that it tells is
// beyond what there is.
type attribute struct {
	name     int
	contents []byte
	more     int
}

// A body is a Code attribute in the making.
type body struct {
	stack, locals int
	code          []byte
	rows          []api.Handler
	attributes    []attribute
}

// ops makes a body of these bytes alone.
func ops(b ...byte) body { return body{stack: 2, locals: 4, code: b} }

// of makes a body of an instruction and a return behind it.
func of(op int, operands ...[]byte) body {
	return ops(joined([]byte{byte(op)}, joined(operands...), []byte{returns})...)
}

// nops makes so many bytes of code, the last one a return.
func nops(n int) []byte {
	b := make([]byte, n)
	b[n-1] = returns
	return b
}

func (m body) bytes() []byte {
	b := joined(u2(m.stack), u2(m.locals), u4(len(m.code)), m.code, u2(len(m.rows)))
	for _, h := range m.rows {
		b = append(b, joined(u2(h.From), u2(h.To), u2(h.At), u2(h.Type))...)
	}
	b = append(b, u2(len(m.attributes))...)
	for _, a := range m.attributes {
		b = append(b, joined(u2(a.name), u4(len(a.contents)+a.more), a.contents)...)
	}
	return b
}

// A writer writes instructions one behind the other.
type writer struct {
	code []byte
}

// put writes an instruction, and tells its place.
func (w *writer) put(op int, operands ...[]byte) int {
	at := len(w.code)
	w.code = append(append(w.code, byte(op)), joined(operands...)...)
	return at
}

// pad gives the noughts that stand behind the opcode of a switch that is
// written next.
func (w *writer) pad() []byte { return make([]byte, 3-len(w.code)%4) }

// rich makes a body that has all there may be: an instruction of each rule,
// handlers, a StackMapTable and attributes that are not known.
func rich(p *pool) body {
	w := &writer{}
	first := w.put(18, []byte{byte(p.num(7))})
	w.put(19, u2(p.str("s")))
	w.put(20, u2(p.long(8)))
	load := w.put(21, []byte{3})
	w.put(22, []byte{2})
	w.put(196, []byte{25}, u2(3))
	w.put(196, []byte{132}, u2(3), u2(-1))
	w.put(31)
	w.put(78)
	w.put(178, u2(p.field("f", "I")))
	w.put(181, u2(p.field("g", "J")))
	w.put(182, u2(p.method("m", "()V")))
	w.put(183, u2(p.method("<init>", "()V")))
	w.put(184, u2(p.ofFace("m", "()V")))
	w.put(185, u2(p.ofFace("n", "(IJ)V")), []byte{4, 0})
	made := w.put(187, u2(p.class("a/A")))
	w.put(188, []byte{10})
	w.put(189, u2(p.class("[[I")))
	w.put(192, u2(p.class("[[I")))
	w.put(193, u2(p.class("a/A")))
	w.put(197, u2(p.class("[[I")), []byte{2})
	w.put(153, u2(first-len(w.code)))
	w.put(200, u4(5))
	counts := w.put(170, w.pad(), u4(first-len(w.code)), u4(-1), u4(0), u4(0), u4(made-len(w.code)))
	w.put(171, w.pad(), u4(counts-len(w.code)), u4(2), u4(-5), u4(first-len(w.code)), u4(9), u4(load-len(w.code)))
	last := w.put(returns)
	return body{3, 4, w.code, []api.Handler{
		{From: first, To: load, At: last},
		{From: made, To: len(w.code), At: load, Type: p.class("a/A")},
	}, []attribute{
		{p.text("Code"), []byte{1, 2, 3}, 0},
		{p.text("StackMapTable"), joined(u2(3), []byte{5, 64 + 3, 7}, u2(p.class("a/A")), []byte{253}, u2(9), []byte{1, 8}, u2(made)), 0},
		{p.text("x y"), nil, 0},
	}}
}

// isZero tells whether a body is the zero one.
func isZero(c api.Code) bool {
	return c.MaxStack == 0 && c.MaxLocals == 0 && len(c.Bytes) == 0 && len(c.Handlers) == 0 && len(c.Maps) == 0
}

// same tells whether two bodies are the same, nil lists and empty ones too.
func same(a, b api.Code) bool {
	return a.MaxStack == b.MaxStack && a.MaxLocals == b.MaxLocals && slices.Equal(a.Bytes, b.Bytes) &&
		slices.Equal(a.Handlers, b.Handlers) && slices.EqualFunc(a.Maps, b.Maps, func(m, n api.Map) bool {
		return m.Tag == n.Tag && m.Delta == n.Delta && slices.Equal(m.Locals, n.Locals) && slices.Equal(m.Stack, n.Stack)
	})
}

// short tells a body by the beginning of its text.
func short(c api.Code) string {
	s := fmt.Sprint(c)
	return s[:min(len(s), 500)]
}

// want holds the answer against what it should be, and against the model's; a
// false one is a zero one.
func want(t *testing.T, what string, b []byte, p []api.Const, major, args int, is bool) {
	t.Helper()
	c, ok := code.Read(b, p, major, args)
	if ok != is {
		t.Fatalf("P7.1, %s: %v, want %v", what, ok, is)
	}
	if !ok && !isZero(c) {
		t.Fatalf("P0.2, %s: false, beside %s", what, short(c))
	}
	if m, is := model(b, p, major, args); ok != is || !same(c, m) {
		t.Fatalf("P7.1, %s: %v %s, the model: %v %s", what, ok, short(c), is, short(m))
	}
}

// check is want of a body of a method without arguments, in a class file of the
// last version.
func (m body) check(t *testing.T, what string, p []api.Const, is bool) {
	t.Helper()
	want(t, what, m.bytes(), p, 52, 0, is)
}
