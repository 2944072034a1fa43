package stackmap_test

import (
	"encoding/binary"
	"slices"
	"testing"

	"obelisk/api"
	"obelisk/cpool"
	"obelisk/cursor"
	"obelisk/stackmap"
)

func u2(n int) []byte { return binary.BigEndian.AppendUint16(nil, uint16(n)) }

// table makes a StackMapTable of entries as they stand.
func table(entries ...[]byte) []byte {
	return slices.Concat(u2(len(entries)), slices.Concat(entries...))
}

// Entries of the tests' pool.
const (
	text   = 1
	class  = 2
	array  = 4
	str    = 5
	num    = 6
	long   = 7
	pair   = 10
	field  = 12
	method = 15
	ofFace = 16
	places = 17
)

// pool is one that has each tag.
func pool(t testing.TB) []api.Const {
	t.Helper()
	b := slices.Concat(u2(places),
		[]byte{1, 0, 3}, []byte("a/A"), // 1
		[]byte{7, 0, 1},               // 2
		[]byte{1, 0, 2}, []byte("[I"), // 3
		[]byte{7, 0, 3},                   // 4
		[]byte{8, 0, 1},                   // 5
		[]byte{3, 0, 0, 0, 2},             // 6
		[]byte{5, 0, 0, 0, 0, 0, 0, 0, 2}, // 7, 8
		[]byte{1, 0, 1}, []byte("f"),      // 9
		[]byte{12, 0, 9, 0, 3},         // 10
		[]byte{1, 0, 3}, []byte("()V"), // 11
		[]byte{9, 0, 2, 0, 10},  // 12
		[]byte{12, 0, 9, 0, 11}, // 13
		[]byte{1, 0, 0},         // 14
		[]byte{10, 0, 2, 0, 13}, // 15
		[]byte{11, 0, 2, 0, 13}, // 16
	)
	p, ok := cpool.Read(cursor.New(b))
	if !ok || len(p) != places {
		t.Fatal("the tests' pool is none")
	}
	return p
}

// model tells a table by a reader that knows nothing of the package: it goes
// from place to place.
func model(b []byte, p []api.Const) ([]api.Map, bool) {
	at, lacks := 0, false
	number := func(n int) int {
		v := 0
		for range n {
			if at >= len(b) {
				lacks = true
				return 0
			}
			v = v<<8 + int(b[at])
			at++
		}
		return v
	}
	kinds := func(n int) []api.VType {
		var list []api.VType
		for i := 0; i < n && !lacks; i++ {
			v := api.VType{Kind: number(1)}
			if v.Kind >= 7 {
				v.At = number(2)
			}
			if v.Kind > 8 || v.Kind == 2 || v.Kind == 3 || v.Kind == 7 && (v.At >= len(p) || p[v.At].Tag != 7) {
				lacks = true
			}
			list = append(list, v)
		}
		return list
	}
	var all []api.Map
	count := number(2)
	for i := 0; i < count && !lacks; i++ {
		m := api.Map{Tag: number(1)}
		if m.Tag < 128 {
			m.Delta = m.Tag % 64
		} else {
			m.Delta = number(2)
		}
		switch {
		case m.Tag >= 128 && m.Tag <= 246:
			lacks = true
		case m.Tag == 255:
			m.Locals = kinds(number(2))
			m.Stack = kinds(number(2))
		case m.Tag >= 252:
			m.Locals = kinds(m.Tag - 251)
		case m.Tag == 247, m.Tag >= 64 && m.Tag < 128:
			m.Stack = kinds(1)
		}
		all = append(all, m)
	}
	if lacks || at < len(b) || count > 4096 {
		return nil, false
	}
	return all, true
}

// same tells whether two lists of entries are the same, nil lists and empty
// ones too.
func same(a, b []api.Map) bool {
	return slices.EqualFunc(a, b, func(m, n api.Map) bool {
		return m.Tag == n.Tag && m.Delta == n.Delta && slices.Equal(m.Locals, n.Locals) && slices.Equal(m.Stack, n.Stack)
	})
}

// want holds the answer against what it should be, and against the model's.
func want(t *testing.T, what string, b []byte, p []api.Const, is bool) {
	t.Helper()
	got, ok := stackmap.Read(b, p)
	if ok != is {
		t.Fatalf("P8.1, %s: %v, want %v", what, ok, is)
	}
	if !ok && len(got) > 0 {
		t.Fatalf("P0.2, %s: false, beside %d entries", what, len(got))
	}
	m, holds := model(b, p)
	if ok != holds || !same(got, m) {
		t.Fatalf("P8.1, %s: %v, %d entries, the model: %v, %d entries", what, ok, len(got), holds, len(m))
	}
}
