package code_test

import (
	"fmt"
	"math"
	"testing"

	"obelisk/api"
)

func TestRichBody(t *testing.T) {
	p := newPool()
	m := rich(p)
	m.check(t, "all there may be", p.read(t), true)
	m.attributes = nil
	m.check(t, "without attributes", p.read(t), true)
	m.rows = nil
	m.check(t, "without handlers", p.read(t), true)
}

func TestBytesThatLack(t *testing.T) {
	p := newPool()
	b := rich(p).bytes()
	list := p.read(t)
	for n := range len(b) {
		want(t, fmt.Sprint("cut at ", n), b[:n], list, 52, 0, false)
	}
	want(t, "no byte", nil, list, 52, 0, false)
	want(t, "no byte", []byte{}, list, 52, 0, false)
	least := ops(nop).bytes()
	for n := range len(least) {
		want(t, fmt.Sprint("the least cut at ", n), least[:n], nil, 52, 0, false)
	}
	want(t, "the least", least, nil, 52, 0, true)
}

func TestBytesBehindTheEnd(t *testing.T) {
	p := newPool()
	b, least := rich(p).bytes(), ops(nop).bytes()
	list := p.read(t)
	for n := 1; n <= 20; n++ {
		for _, more := range []byte{0, 1, 255} {
			behind := make([]byte, n)
			behind[n-1] = more
			what := fmt.Sprint(n, " behind the end, the last one ", more)
			want(t, what, joined(b, behind), list, 52, 0, false)
			want(t, what, joined(least, behind), list, 52, 0, false)
		}
	}
	want(t, "two bodies", joined(b, b), list, 52, 0, false)
}

func TestMaxStack(t *testing.T) {
	for n, is := range map[int]bool{0: true, 1: true, 255: true, 256: true, 299: true, 300: true, 301: false, 512: false, 32767: false, 32768: false, 65535: false} {
		m := ops(returns)
		m.stack = n
		m.check(t, fmt.Sprint("max_stack ", n), nil, is)
	}
}

func TestMaxLocals(t *testing.T) {
	for n, is := range map[int]bool{0: true, 1: true, 255: true, 256: true, 299: true, 300: true, 301: false, 512: false, 32767: false, 32768: false, 65535: false} {
		m := ops(returns)
		m.locals = n
		m.check(t, fmt.Sprint("max_locals ", n), nil, is)
	}
}

func TestArguments(t *testing.T) {
	for _, args := range []int{0, 1, 2, 100, 254, 255} {
		for _, locals := range []int{0, 1, 2, 99, 100, 101, 254, 255, 256, 300, 301, 65535} {
			m := ops(returns)
			m.stack, m.locals = 0, locals
			what := fmt.Sprint(args, " of arguments, max_locals ", locals)
			want(t, what, m.bytes(), nil, 52, args, args <= locals && locals <= 300)
		}
	}
}

// What is no count holds all the same: max_locals below it is wrong, not below
// it is not.
func TestArgumentsThatAreNoCount(t *testing.T) {
	for _, args := range []int{-1, -2, -256, -65536, math.MinInt32, math.MinInt64, 256, 300, 301, 65535, 65536, 1 << 32, math.MaxInt32, math.MaxInt64} {
		for _, locals := range []int{0, 255, 256, 300} {
			m := ops(returns)
			m.locals = locals
			want(t, fmt.Sprint(args, " of arguments, max_locals ", locals), m.bytes(), nil, 52, args, args <= locals)
		}
	}
}

func TestCodeLength(t *testing.T) {
	m := ops()
	m.check(t, "no byte of code", nil, false)
	for n, is := range map[int]bool{1: true, 2: true, 255: true, 256: true, 4095: true, 4096: true, 4097: false, 5000: false, 65535: false, 65536: false, 70000: false} {
		ops(nops(n)...).check(t, fmt.Sprint(n, " bytes of code"), nil, is)
	}
}

func TestCodeLengthThatIsNotSo(t *testing.T) {
	b := ops(nops(3)...).bytes()
	for _, n := range []int{0, 1, 2, 4, 5, 7, 255, 256, 4095, 4096, 65535, 65536, 1 << 24, math.MaxInt32, math.MaxInt32 + 1, math.MaxUint32 - 3, math.MaxUint32} {
		want(t, fmt.Sprint("3 bytes of code as ", n), joined(b[:4], u4(n), b[8:]), nil, 52, 0, false)
	}
	for _, high := range []int{1, 2, 128, 255} { // of a length, if its lowest two bytes alone counted
		wrong := joined(b[:4], []byte{byte(high), 0, 0, 3}, b[8:])
		want(t, fmt.Sprint("a length with the highest byte ", high), wrong, nil, 52, 0, false)
	}
}

func TestCountsOfRowsAndAttributes(t *testing.T) {
	b := ops(returns).bytes()
	for _, n := range []int{1, 2, 255, 256, 32768, 65535} {
		want(t, fmt.Sprint(n, " handlers, but none is there"), joined(b[:9], u2(n), b[11:]), nil, 52, 0, false)
		want(t, fmt.Sprint(n, " attributes, but none is there"), joined(b[:11], u2(n)), nil, 52, 0, false)
	}
}

func TestUnknownAttributes(t *testing.T) {
	p := newPool()
	list := []string{"", "x", "LineNumberTable", "LocalVariableTable", "RuntimeVisibleTypeAnnotations",
		"Code", "ConstantValue", "stackMapTable", "StackMap", "StackMapTabl", "StackMapTable ", "StackMapTables", " StackMapTable", "StackMapTablf", "\xc0\x80"}
	for _, name := range list {
		for _, size := range []int{0, 1, 2, 4, 255, 256, 65535, 65536, 70000} {
			for _, fill := range []byte{0, 1, 255} {
				m := ops(returns)
				m.attributes = []attribute{{p.text(name), filled(size, fill), 0}}
				m.check(t, fmt.Sprintf("attribute %q of %d bytes", name, size), p.read(t), true)
			}
		}
	}
	m := ops(returns)
	for _, name := range list {
		m.attributes = append(m.attributes, attribute{p.text(name), []byte(name), 0}, attribute{p.text(name), nil, 0})
	}
	m.check(t, "many attributes, each twice", p.read(t), true)
	for len(m.attributes) < 65535 {
		m.attributes = append(m.attributes, attribute{p.text("x"), nil, 0})
	}
	m.check(t, "65,535 attributes", p.read(t), true)
}

func filled(n int, b byte) []byte {
	list := make([]byte, n)
	for i := range list {
		list[i] = b
	}
	return list
}

func TestNamesOfAttributes(t *testing.T) {
	p := newPool()
	text := p.text("x")
	for i := range odd(p) {
		for _, contents := range [][]byte{nil, {0, 0}} {
			m := ops(returns)
			m.attributes = []attribute{{i, contents, 0}}
			list := p.read(t)
			isText := i < len(list) && list[i].Tag == api.TUtf8
			m.check(t, fmt.Sprint("an attribute's name is entry ", i), list, isText)
			m.attributes = []attribute{{text, nil, 0}, {i, contents, 0}, {text, nil, 0}}
			m.check(t, fmt.Sprint("the second attribute's name is entry ", i), list, isText)
		}
	}
	m := ops(returns)
	m.attributes = []attribute{{text, nil, 0}}
	m.check(t, "an attribute, but no pool", nil, false)
}

func TestLengthsOfAttributes(t *testing.T) {
	p := newPool()
	for _, name := range []string{"x", "StackMapTable"} {
		for _, more := range []int{-2, -1, 1, 2, 8, 255, 65536, math.MaxInt32 - 2, math.MaxInt32, math.MaxUint32 - 2} {
			m := ops(returns)
			m.attributes = []attribute{{p.text(name), []byte{0, 0}, more}}
			m.check(t, fmt.Sprintf("%q of 2 bytes as %d", name, 2+more), p.read(t), false)
		}
	}
	m := ops(returns)
	m.attributes = []attribute{{p.text("x"), nil, 6}, {p.text("x"), nil, 0}}
	b := m.bytes()
	want(t, "two attributes that one swallows", b, p.read(t), 52, 0, false)
	b[12] = 1
	want(t, "one attribute that holds another", b, p.read(t), 52, 0, true)
}

func TestStackMapTable(t *testing.T) {
	p := newPool()
	name, class := p.text("StackMapTable"), p.class("a/A")
	list := p.read(t)
	for i, c := range []struct {
		contents []byte
		is       bool
	}{
		{nil, false},
		{[]byte{0}, false},
		{[]byte{0, 0}, true},
		{[]byte{0, 0, 0}, false},
		{[]byte{0, 1, 0}, true},
		{[]byte{0, 1, 0, 0}, false},
		{[]byte{0, 2, 0}, false},
		{[]byte{0, 1, 128, 0, 0}, false},
		{[]byte{0, 1, 64, 2}, false},
		{joined([]byte{0, 1, 64, 7}, u2(class)), true},
		{joined([]byte{0, 1, 64, 7}, u2(name)), false},
		{[]byte{0, 1, 255, 255, 255, 0, 1, 4, 0, 1, 8, 255, 255}, true}, // what it means is not asked here
	} {
		m := ops(returns)
		m.attributes = []attribute{{name, c.contents, 0}}
		m.check(t, fmt.Sprint("StackMapTable ", i), list, c.is)
		m.attributes = append(m.attributes, attribute{name, []byte{0, 0}, 0})
		m.check(t, fmt.Sprint("StackMapTable ", i, " and another one"), list, false)
		m.attributes[0], m.attributes[1] = m.attributes[1], m.attributes[0]
		m.check(t, fmt.Sprint("StackMapTable ", i, " behind another one"), list, false)
	}
}

// Entries may hold the same text: each of them names the attribute.
func TestTwoTablesOfTwoNames(t *testing.T) {
	list := []api.Const{{}, {Tag: api.TUtf8, Text: "StackMapTable"}, {Tag: api.TUtf8, Text: "StackMapTable"}}
	m := ops(returns)
	m.attributes = []attribute{{2, []byte{0, 0}, 0}}
	m.check(t, "one of the second name", list, true)
	m.attributes = []attribute{{1, []byte{0, 0}, 0}, {2, []byte{0, 0}, 0}}
	m.check(t, "one of each name", list, false)
}
