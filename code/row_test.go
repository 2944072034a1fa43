package code_test

import (
	"fmt"
	"slices"
	"testing"

	"obelisk/api"
)

// steps makes a body whose instructions begin at 0, 1, 4, 5 and 10, of 11 bytes.
func steps() (body, []int) {
	return ops(nop, 17, 0, 0, nop, 200, 0, 0, 0, 5, returns), []int{0, 1, 4, 5, 10}
}

func TestPlacesOfRows(t *testing.T) {
	m, begins := steps()
	var places []int
	for at := range len(m.code) + 3 {
		places = append(places, at)
	}
	places = append(places, 255, 256, 257, 4096, 32768, 65535)
	for _, from := range places {
		for _, to := range places {
			for _, at := range places {
				m.rows = []api.Handler{{From: from, To: to, At: at}}
				ends := slices.Contains(begins, to) || to == 11
				is := from < to && slices.Contains(begins, from) && ends && slices.Contains(begins, at)
				m.check(t, fmt.Sprintf("a handler at %d, from %d to %d", at, from, to), nil, is)
			}
		}
	}
}

func TestPlacesOfRowsInLongCode(t *testing.T) {
	m := ops(nops(4096)...)
	for _, h := range []api.Handler{{From: 0, To: 4096, At: 0}, {From: 4095, To: 4096, At: 4095}, {From: 0, To: 1, At: 4095}, {From: 4094, To: 4095, At: 300}} {
		m.rows = []api.Handler{h}
		m.check(t, fmt.Sprint(h), nil, true)
	}
	for _, h := range []api.Handler{{From: 0, To: 4097, At: 0}, {From: 4096, To: 4096, At: 0}, {From: 4096, To: 4097, At: 0}, {From: 0, To: 4096, At: 4096}, {From: 4095, To: 4095, At: 0}, {From: 4095, To: 4094, At: 0}, {From: 0, To: 0, At: 0}} {
		m.rows = []api.Handler{h}
		m.check(t, fmt.Sprint(h), nil, false)
	}
}

// Places within a switch, behind wide and within a prefix are no instruction's.
func TestPlacesOfRowsWithinInstructions(t *testing.T) {
	w := &writer{}
	begins := []int{
		w.put(nop),
		w.put(196, []byte{132}, u2(0), u2(1)),
		w.put(171, w.pad(), u4(-len(w.code)), u4(1), u4(0), u4(-len(w.code))),
		w.put(185, u2(1), []byte{1, 0}),
		w.put(returns),
	}
	p := newPool()
	face := p.ofFace("m", "()V")
	copy(w.code[begins[3]+1:], u2(face))
	m := ops(w.code...)
	for at := range len(w.code) + 1 {
		is := slices.Contains(begins, at)
		m.rows = []api.Handler{{From: at, To: len(w.code), At: 0}}
		m.check(t, fmt.Sprint("from ", at), p.read(t), is)
		m.rows = []api.Handler{{From: 0, To: at, At: 0}}
		m.check(t, fmt.Sprint("to ", at), p.read(t), at > 0 && (is || at == len(w.code)))
		m.rows = []api.Handler{{From: 0, To: 1, At: at}}
		m.check(t, fmt.Sprint("at ", at), p.read(t), is)
	}
}

func TestTypesOfRows(t *testing.T) {
	p := newPool()
	m := ops(nop, returns)
	for i := range odd(p) {
		list := p.read(t)
		m.rows = []api.Handler{{From: 0, To: 1, At: 1, Type: i}}
		is := i == 0 || i < len(list) && list[i].Tag == api.TClass
		m.check(t, fmt.Sprint("the type is entry ", i), list, is)
	}
	for _, i := range []int{0, 1, 2, 65535} {
		m.rows = []api.Handler{{From: 0, To: 1, At: 1, Type: i}}
		m.check(t, fmt.Sprint("no pool, the type is entry ", i), nil, i == 0)
	}
}

func TestManyRows(t *testing.T) {
	p := newPool()
	class := p.class("a/A")
	list := p.read(t)
	m, _ := steps()
	good := []api.Handler{{From: 0, To: 11, At: 10}, {From: 0, To: 1, At: 0, Type: class}, {From: 5, To: 10, At: 5}, {From: 0, To: 11, At: 10}}
	wrong := []api.Handler{{From: 0, To: 0, At: 0}, {From: 5, To: 4, At: 0}, {From: 2, To: 4, At: 0}, {From: 0, To: 3, At: 0}, {From: 0, To: 4, At: 6}, {From: 0, To: 4, At: 11}, {From: 0, To: 12, At: 0}, {From: 0, To: 4, At: 0, Type: class - 1}, {From: 0, To: 4, At: 0, Type: len(list)}}
	m.rows = good
	m.check(t, "four handlers", list, true)
	for i := range len(good) + 1 {
		for _, h := range wrong {
			m.rows = slices.Insert(slices.Clone(good), i, h)
			m.check(t, fmt.Sprint("row ", i, " is ", h), list, false)
		}
	}
	m.rows = slices.Repeat(good, 16384)[:65535]
	m.check(t, "65,535 handlers", list, true)
	m.rows[65534] = wrong[0]
	m.check(t, "65,535 handlers, the last one wrong", list, false)
}
