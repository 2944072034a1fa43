package stackmap_test

import (
	"fmt"
	"math"
	"slices"
	"testing"

	"obelisk/api"
	"obelisk/stackmap"
)

// plain makes an entry of a tag, with an offset where it has one of its own, as
// many types as it asks, all of them this one; of full, two locals and one
// operand.
func plain(tag, offset int, kind []byte) []byte {
	b := []byte{byte(tag)}
	if tag > 127 {
		b = append(b, u2(offset)...)
	}
	switch {
	case tag >= 64 && tag <= 127 || tag == 247:
		return slices.Concat(b, kind)
	case tag >= 252 && tag <= 254:
		return slices.Concat(b, slices.Repeat(kind, tag-251))
	case tag == 255:
		return slices.Concat(b, u2(2), kind, kind, u2(1), kind)
	}
	return b
}

// told is what Read tells of a plain entry.
func told(tag, offset int, kind api.VType) api.Map {
	m := api.Map{Tag: tag, Delta: offset}
	switch {
	case tag <= 63:
		m.Delta = tag
	case tag <= 127:
		m.Delta, m.Stack = tag-64, []api.VType{kind}
	case tag == 247:
		m.Stack = []api.VType{kind}
	case tag == 252:
		m.Locals = []api.VType{kind}
	case tag == 253:
		m.Locals = []api.VType{kind, kind}
	case tag == 254:
		m.Locals = []api.VType{kind, kind, kind}
	case tag == 255:
		m.Locals, m.Stack = []api.VType{kind, kind}, []api.VType{kind}
	}
	return m
}

// kinds are the types that there are, as they stand and as they are told.
func kinds() ([][]byte, []api.VType) {
	return [][]byte{{0}, {1}, {4}, {5}, {6}, {7, 0, class}, {7, 0, array}, {8, 0, 0}, {8, 1, 0}, {8, 255, 255}},
		[]api.VType{{Kind: api.KTop}, {Kind: api.KInt}, {Kind: api.KLong}, {Kind: api.KNull}, {Kind: api.KThis},
			{Kind: api.KObj, At: class}, {Kind: api.KObj, At: array}, {Kind: api.KNew}, {Kind: api.KNew, At: 256}, {Kind: api.KNew, At: 65535}}
}

func TestTags(t *testing.T) {
	p := pool(t)
	bytes, types := kinds()
	for tag := range 256 {
		for i := range bytes {
			for _, offset := range []int{0, 1, 255, 256, 4096, 32768, 65535} {
				what := fmt.Sprintf("tag %d, offset %d, type %d", tag, offset, i)
				b := table(plain(tag, offset, bytes[i]))
				is := tag <= 127 || tag >= 247
				want(t, what, b, p, is)
				got, _ := stackmap.Read(b, p)
				if is && !same(got, []api.Map{told(tag, offset, types[i])}) {
					t.Fatalf("P8.1, %s: %v, want %v", what, got, told(tag, offset, types[i]))
				}
			}
		}
	}
}

func TestBytesThatLackOrAreLeft(t *testing.T) {
	p := pool(t)
	bytes, _ := kinds()
	for tag := range 256 {
		for _, kind := range bytes {
			b := table(plain(tag, 300, kind))
			for n := range len(b) {
				want(t, fmt.Sprintf("tag %d, type %v, cut at %d", tag, kind, n), b[:n], p, false)
			}
			for _, more := range [][]byte{{0}, {1}, {255}, {0, 0, 0}} {
				want(t, fmt.Sprintf("tag %d, type %v, with %v behind", tag, kind, more), slices.Concat(b, more), p, false)
			}
		}
	}
	want(t, "no byte", nil, p, false)
	want(t, "no byte", []byte{}, p, false)
	want(t, "one byte", []byte{0}, p, false)
}

func TestEntriesThatAreCounted(t *testing.T) {
	p := pool(t)
	want(t, "no entry", []byte{0, 0}, p, true)
	want(t, "no entry, and a byte", []byte{0, 0, 0}, p, false)
	for _, there := range []int{0, 1, 2, 255, 256, 4095, 4096, 4097, 65535} {
		for _, count := range []int{0, 1, 2, 3, 254, 255, 256, 257, 4095, 4096, 4097, 32768, 65535} {
			b := slices.Concat(u2(count), make([]byte, there))
			want(t, fmt.Sprintf("%d entries as %d", there, count), b, p, there == count && count <= 4096)
		}
	}
}

func TestEntriesInTheirOrder(t *testing.T) {
	p := pool(t)
	bytes, types := kinds()
	var entries [][]byte
	var all []api.Map
	for n := range 600 {
		tag := n % 256
		if tag > 127 && tag < 247 {
			tag = 255
		}
		k := n % len(bytes)
		entries, all = append(entries, plain(tag, n*100, bytes[k])), append(all, told(tag, n*100, types[k]))
	}
	got, ok := stackmap.Read(table(entries...), p)
	if !ok || !same(got, all) {
		t.Errorf("P8.1: %v, %d entries, or not as they stand", ok, len(got))
	}
}

func TestTypes(t *testing.T) {
	p := pool(t)
	for kind := range 256 {
		is := slices.Contains([]int{0, 1, 4, 5, 6}, kind)
		for _, tag := range []int{64, 127, 247, 252, 253, 254, 255} {
			want(t, fmt.Sprintf("type %d in tag %d", kind, tag), table(plain(tag, 0, []byte{byte(kind)})), p, is)
		}
		for place := range 5 { // of a full frame: three locals, two operands
			list := slices.Repeat([][]byte{{1}}, 5)
			list[place] = []byte{byte(kind)}
			b := table(slices.Concat([]byte{255, 0, 0, 0, 3}, slices.Concat(list[:3]...), []byte{0, 2}, slices.Concat(list[3:]...)))
			want(t, fmt.Sprintf("type %d at %d of a full frame", kind, place), b, p, is)
		}
		for place := range 3 {
			b := []byte{0, 1, 254, 0, 0, 1, 1, 1}
			b[5+place] = byte(kind)
			want(t, fmt.Sprintf("type %d at %d of append", kind, place), b, p, is)
		}
	}
}

func TestClassesOfTypes(t *testing.T) {
	p := pool(t)
	for _, i := range []int{0, text, class, 3, array, str, num, long, long + 1, 9, pair, 11, field, 13, 14, method, ofFace, places, places + 1, 256 + class, 32768, 65535} {
		kind := slices.Concat([]byte{7}, u2(i))
		for _, tag := range []int{64, 127, 247, 252, 253, 254, 255} {
			want(t, fmt.Sprintf("an object of entry %d in tag %d", i, tag), table(plain(tag, 0, kind)), p, i == class || i == array)
		}
		want(t, fmt.Sprintf("an object of entry %d, but no pool", i), table(plain(64, 0, kind)), nil, false)
	}
	for at := range 65536 {
		got, ok := stackmap.Read(table(slices.Concat([]byte{64, 8}, u2(at))), nil)
		if !ok || got[0].Stack[0] != (api.VType{Kind: api.KNew, At: at}) {
			t.Fatalf("P8.1, offset %d: %v %v", at, ok, got)
		}
	}
}

func TestFullFrames(t *testing.T) {
	p := pool(t)
	for _, locals := range []int{0, 1, 2, 255, 256, 300, 65535} {
		for _, operands := range []int{0, 1, 2, 255, 256, 300, 65535} {
			full := slices.Concat([]byte{255, 1, 2}, u2(locals), slices.Repeat([]byte{1}, locals), u2(operands), slices.Repeat([]byte{4}, operands))
			what := fmt.Sprintf("a full frame of %d and %d", locals, operands)
			want(t, what, table(full), p, true)
			want(t, what+", cut", table(full[:len(full)-1]), p, false)
			want(t, what+", and another one", table(full, []byte{0}), p, true)
			if got, _ := stackmap.Read(table(full), p); len(got[0].Locals) != locals || len(got[0].Stack) != operands || got[0].Delta != 258 {
				t.Errorf("P8.1, %s: %d and %d", what, len(got[0].Locals), len(got[0].Stack))
			}
		}
	}
}

// rich is a table of each kind of entry.
func rich() []byte {
	return table([]byte{0}, []byte{63}, []byte{64, 7, 0, class}, []byte{127, 1}, []byte{247, 1, 2, 8, 3, 4}, []byte{248, 0, 1}, []byte{250, 0, 2},
		[]byte{251, 255, 255}, []byte{252, 0, 3, 4}, []byte{253, 0, 4, 5, 6}, []byte{254, 0, 5, 0, 7, 0, array, 1},
		[]byte{255, 0, 6, 0, 2, 7, 0, class, 4, 0, 3, 1, 8, 0, 9, 0})
}

func TestBytesChanged(t *testing.T) {
	p := pool(t)
	want(t, "all kinds of entries", rich(), p, true)
	for i := range rich() {
		for v := range 256 {
			b := rich()
			b[i] = byte(v)
			_, is := model(b, p)
			want(t, fmt.Sprintf("byte %d is %d", i, v), b, p, is)
		}
	}
	seed := uint32(1)
	for n := range 100000 {
		b := rich()
		for range 2 {
			seed = seed*1664525 + 1013904223
			b[int(seed>>8)%len(b)] = rich()[int(seed>>20)%len(b)]
		}
		_, is := model(b, p)
		want(t, fmt.Sprint("change ", n), b, p, is)
	}
}

// Each table of three bytes behind one entry's count, and of four small ones.
func TestAllShortTables(t *testing.T) {
	p := pool(t)
	for n := range 1 << 16 {
		for _, b := range [][]byte{{0, 1, byte(n), byte(n >> 8)}, {0, 2, byte(n), byte(n >> 8)}, {0, 1, 64, byte(n), byte(n >> 8), class}, {0, 1, 252, 0, 0, byte(n), byte(n >> 8), class}} {
			_, is := model(b, p)
			want(t, fmt.Sprint(b), b, p, is)
		}
	}
}

// scribble writes over all that a list of entries holds, spare room too.
func scribble(maps []api.Map) {
	maps = maps[:cap(maps)]
	for i, m := range maps {
		scribbleTypes(m.Locals)
		scribbleTypes(m.Stack)
		maps[i] = api.Map{Tag: -1, Delta: -1}
	}
}

func scribbleTypes(list []api.VType) {
	list = list[:cap(list)]
	for i := range list {
		list[i] = api.VType{Kind: -1, Name: "?", At: -1}
	}
}

func TestMemory(t *testing.T) {
	list := pool(t)
	p := append(make([]api.Const, 0, 40), list...)
	b := append(make([]byte, 0, 200), rich()...)
	is, _ := model(rich(), list)
	first, _ := stackmap.Read(b, p)
	second, _ := stackmap.Read(b, p)
	scribble(first)
	if !same(second, is) {
		t.Error("P0.3: one answer shares memory with another")
	}
	if !slices.Equal(b, rich()) || !slices.Equal(p, list) {
		t.Error("P0.3: what is handed in was changed")
	}
	third, ok := stackmap.Read(b, p)
	if !ok || !same(third, is) {
		t.Error("P0.5: the answer is another one")
	}
	for i := range b {
		b[i] = 255
	}
	for i := range p {
		p[i] = api.Const{}
	}
	if !same(third, is) {
		t.Error("P0.3: what is handed in is kept in an answer")
	}
	for _, room := range b[len(b):cap(b)] {
		if room != 0 {
			t.Fatal("P0.3: spare room was changed")
		}
	}
}

// Of an answer no two lists share memory.
func TestListsAreApart(t *testing.T) {
	p := pool(t)
	is, _ := model(rich(), p)
	for i := range is {
		for _, locals := range []bool{true, false} {
			got, _ := stackmap.Read(rich(), p)
			mine := &got[i].Stack
			if locals {
				mine = &got[i].Locals
			}
			scribbleTypes(*mine)
			*mine = map[bool][]api.VType{true: is[i].Locals, false: is[i].Stack}[locals]
			if !same(got, is) {
				t.Errorf("P0.3: what is written into a list of entry %d is seen in another list", i)
			}
		}
	}
}

// Pools that no class file has: the call ends, and objects are of classes.
func TestPoolsThatAreNone(t *testing.T) {
	b := table([]byte{64, 7, 0, 1})
	for _, tag := range []int{math.MinInt64, -1, 0, 1, 7, 8, 255, math.MaxInt64} {
		for _, a := range []int{math.MinInt64, -1, 0, 1, 2, math.MaxInt64} {
			got, ok := stackmap.Read(b, []api.Const{{}, {Tag: tag, A: a}})
			if ok || len(got) > 0 {
				t.Errorf("P8.1: an object of an entry of tag %d that names %d", tag, a)
			}
		}
	}
}
