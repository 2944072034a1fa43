package code_test

import (
	"fmt"
	"slices"
	"testing"

	"obelisk/api"
	"obelisk/code"
	"obelisk/stackmap"
)

func TestFieldsOfTheAnswer(t *testing.T) {
	p := newPool()
	class := p.class("a/A")
	m := ops(nop, nop, returns)
	m.stack, m.locals = 257, 258
	m.rows = []api.Handler{{From: 1, To: 3, At: 2, Type: class}, {From: 0, To: 1, At: 1}, {From: 1, To: 3, At: 2, Type: class}}
	m.attributes = []attribute{
		{p.text("x"), []byte{9}, 0},
		{p.text("StackMapTable"), joined([]byte{0, 2, 1, 255, 0, 0, 0, 1, 7}, u2(class), []byte{0, 2, 8, 1, 0, 4}), 0},
	}
	list := p.read(t)
	got, ok := m.read(list)
	want := api.Code{
		MaxStack: 257, MaxLocals: 258, Bytes: []byte{nop, nop, returns},
		Handlers: []api.Handler{{From: 1, To: 3, At: 2, Type: class}, {From: 0, To: 1, At: 1}, {From: 1, To: 3, At: 2, Type: class}},
		Maps: []api.Map{
			{Tag: 1, Delta: 1},
			{Tag: 255, Locals: []api.VType{{Kind: api.KObj, At: class}}, Stack: []api.VType{{Kind: api.KNew, At: 256}, {Kind: api.KLong}}},
		},
	}
	if !ok || !same(got, want) {
		t.Fatalf("P7.1: %v %v, want %v", ok, got, want)
	}
	if maps, ok := stackmap.Read(m.attributes[1].contents, list); !ok || !same(api.Code{Maps: maps}, api.Code{Maps: got.Maps}) {
		t.Errorf("P7.1: the frames are %v, package stackmap's %v", got.Maps, maps)
	}
}

func TestFieldsThatAreZero(t *testing.T) {
	m := ops(returns)
	m.stack, m.locals = 0, 0
	got, ok := m.read(nil)
	if !ok || got.MaxStack != 0 || got.MaxLocals != 0 || len(got.Bytes) != 1 || got.Bytes[0] != returns || len(got.Handlers) != 0 || len(got.Maps) != 0 {
		t.Errorf("P7.1: %v %v", ok, got)
	}
	m.rows = []api.Handler{{From: 0, To: 1, At: 0}}
	if got, ok := m.read(nil); !ok || len(got.Handlers) != 1 || got.Handlers[0] != (api.Handler{From: 0, To: 1}) {
		t.Errorf("P7.1: %v %v", ok, got)
	}
}

func TestMaxStackAndMaxLocalsAreNotMixed(t *testing.T) {
	for _, n := range []int{0, 1, 255, 256, 299, 300} {
		m := ops(returns)
		m.stack, m.locals = n, 300-n
		if got, ok := m.read(nil); !ok || got.MaxStack != n || got.MaxLocals != 300-n {
			t.Errorf("P7.1, %d and %d: %v %v", n, 300-n, ok, got)
		}
	}
}

func TestCodeIsToldAsItStands(t *testing.T) {
	for _, n := range []int{1, 2, 255, 256, 4095, 4096} {
		b := make([]byte, n)
		for i := range b {
			b[i] = byte(i % 9) // nop to iconst_5
		}
		if got, ok := ops(b...).read(nil); !ok || !slices.Equal(got.Bytes, b) {
			t.Errorf("P7.1, %d bytes: %v %s", n, ok, short(got))
		}
	}
}

// Every byte of a body may be another one: the answer is the model's.
func TestEachByteChanged(t *testing.T) {
	p := newPool()
	m := rich(p)
	odd(p)
	b, list := m.bytes(), p.read(t)
	for i := range b {
		for v := range 256 {
			if v == int(b[i]) {
				continue
			}
			changed := slices.Clone(b)
			changed[i] = byte(v)
			hold(t, fmt.Sprintf("byte %d is %d", i, v), changed, list)
		}
	}
}

// hold holds the answers for two versions against the model's, and tells whether
// the body holds in the last one.
func hold(t *testing.T, what string, b []byte, list []api.Const) bool {
	t.Helper()
	for _, major := range []int{51, 52} {
		_, is := model(b, list, major, 2)
		want(t, fmt.Sprint(what, ", version ", major), b, list, major, 2, is)
	}
	_, is := code.Read(b, list, 52, 2)
	return is
}

// Two places of a body changed, to what may well stand there.
func TestManyBytesChanged(t *testing.T) {
	p := newPool()
	m := rich(p)
	odd(p)
	b, list := m.bytes(), p.read(t)
	sound, seed := 0, uint32(1)
	next := func(n int) int {
		seed = seed*1664525 + 1013904223
		return int(seed>>8) % n
	}
	for n := range 20000 {
		changed := slices.Clone(b)
		for range 1 + next(3) {
			i := next(len(b))
			switch next(3) {
			case 0:
				changed[i] = byte(next(len(list)))
			case 1:
				changed[i] = b[next(len(b))]
			case 2:
				changed[i] += byte(next(9) - 4)
			}
		}
		if hold(t, fmt.Sprint("change ", n), changed, list) {
			sound++
		}
	}
	if sound < 200 {
		t.Errorf("only %d of the changed bodies hold: the test says little", sound)
	}
}

func TestWhatIsHandedInStays(t *testing.T) {
	p := newPool()
	m := rich(p)
	for _, cut := range []int{0, 1} { // a body that holds, and one that does not
		whole := m.bytes()
		whole = whole[:len(whole)-cut]
		b := append(make([]byte, 0, len(whole)+50), whole...)
		spare := b[len(b):cap(b)]
		for i := range spare {
			spare[i] = 0x5a
		}
		read := p.read(t)
		list := append(make([]api.Const, 0, len(read)+20), read...)
		spareList := list[len(list):cap(list)]
		for i := range spareList {
			spareList[i] = api.Const{Tag: 77}
		}
		if _, ok := code.Read(b, list, 52, 0); ok != (cut == 0) {
			t.Fatal("P7.1: ", ok)
		}
		if !slices.Equal(b, whole) || !slices.Equal(list, read) {
			t.Error("P0.3: what is handed in was changed")
		}
		if slices.ContainsFunc(spare, func(x byte) bool { return x != 0x5a }) || slices.ContainsFunc(spareList, func(c api.Const) bool { return c.Tag != 77 }) {
			t.Error("P0.3: spare room of what is handed in was changed")
		}
	}
}

// scribble writes over all that a body holds, spare room too.
func scribble(c api.Code) {
	for i := range c.Bytes[:cap(c.Bytes)] {
		c.Bytes[:cap(c.Bytes)][i] = 0xee
	}
	for i := range c.Handlers[:cap(c.Handlers)] {
		c.Handlers[:cap(c.Handlers)][i] = api.Handler{From: -1, To: -1, At: -1, Type: -1}
	}
	maps := c.Maps[:cap(c.Maps)]
	for i, m := range maps {
		for _, list := range [][]api.VType{m.Locals, m.Stack} {
			for k := range list[:cap(list)] {
				list[:cap(list)][k] = api.VType{Kind: -1, Name: "?", At: -1}
			}
		}
		maps[i] = api.Map{Tag: -1}
	}
}

func TestAnswersAreNewMemory(t *testing.T) {
	p := newPool()
	m := rich(p)
	b, list := m.bytes(), p.read(t)
	want, _ := model(b, list, 52, 0)
	first, ok := code.Read(b, list, 52, 0)
	if !ok {
		t.Fatal("P7.1")
	}
	second, _ := code.Read(b, list, 52, 0)
	scribble(first)
	if !same(second, want) {
		t.Error("P0.3: one answer shares memory with another")
	}
	if !slices.Equal(b, m.bytes()) || !slices.Equal(list, p.read(t)) {
		t.Error("P0.3: an answer shares memory with what was handed in")
	}
	third, ok := code.Read(b, list, 52, 0)
	if !ok || !same(third, want) {
		t.Error("P0.3: what is written into an answer changes a later one")
	}
	for i := range b {
		b[i] = 0xff
	}
	for i := range list {
		list[i] = api.Const{}
	}
	if !same(third, want) {
		t.Error("P0.3: what is handed in is kept in an answer")
	}
}

// No two lists of an answer share memory: what is written into one, or behind
// its end, is seen in none of the others.
func TestListsOfAnAnswerAreApart(t *testing.T) {
	p := newPool()
	m := rich(p)
	b, list := m.bytes(), p.read(t)
	read := func() (api.Code, []func()) {
		c, _ := code.Read(b, list, 52, 0)
		writes := []func(){
			func() { scribble(api.Code{Bytes: c.Bytes}) },
			func() { scribble(api.Code{Handlers: c.Handlers}) },
		}
		for _, m := range c.Maps {
			writes = append(writes,
				func() { scribble(api.Code{Maps: []api.Map{{Locals: m.Locals}}}) },
				func() { scribble(api.Code{Maps: []api.Map{{Stack: m.Stack}}}) })
		}
		return c, writes
	}
	want, writes := read()
	for i := range writes {
		c, writes := read()
		writes[i]()
		lists := func(c api.Code) []string {
			all := []string{fmt.Sprint(c.Bytes), fmt.Sprint(c.Handlers)}
			for _, m := range c.Maps {
				all = append(all, fmt.Sprint(m.Locals), fmt.Sprint(m.Stack))
			}
			return all
		}
		was, is := lists(want), lists(c)
		for k := range was {
			if k != i && was[k] != is[k] {
				t.Errorf("P0.3: what is written into list %d is seen in list %d", i, k)
			}
		}
	}
}

func TestAnswersHangOnArguments(t *testing.T) {
	p := newPool()
	m := rich(p)
	b, list := m.bytes(), p.read(t)
	want, _ := model(b, list, 52, 0)
	for range 3 {
		for _, other := range [][]byte{nil, b[:20], ops(nop).bytes(), ops(185, 0, 1, 1, 0).bytes(), ops(202).bytes()} {
			code.Read(other, nil, 50, 7)
			code.Read(other, list, 51, 0)
			if got, ok := code.Read(b, list, 52, 0); !ok || !same(got, want) {
				t.Fatalf("P0.5: %v %s", ok, short(got))
			}
			if _, ok := code.Read(b, list, 51, 0); ok {
				t.Fatal("P0.5: version 51 holds")
			}
			if _, ok := code.Read(b, nil, 52, 0); ok {
				t.Fatal("P0.5: no pool holds")
			}
		}
	}
}

func TestNilIsTheSameAsEmpty(t *testing.T) {
	b := ops(nop, returns).bytes()
	for _, list := range [][]api.Const{nil, {}, {{}}} {
		if got, ok := code.Read(b, list, 52, 0); !ok || len(got.Bytes) != 2 {
			t.Errorf("P0.4: %v %v", ok, got)
		}
	}
	for _, none := range [][]byte{nil, {}} {
		if got, ok := code.Read(none, nil, 52, 0); ok || !isZero(got) {
			t.Errorf("P0.4: %v %v", ok, got)
		}
	}
}
