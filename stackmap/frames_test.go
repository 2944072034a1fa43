package stackmap_test

import (
	"fmt"
	"math"
	"slices"
	"testing"

	"obelisk/api"
	"obelisk/stackmap"
)

func TestNoEntries(t *testing.T) {
	p := pool(t)
	for _, first := range []api.Frame{{}, start(whole), start(wide, top, top), {At: 7, Locals: list(null), Stack: list(wide)}} {
		for _, most := range []int{0, 1, 2, 300} {
			hold(t, "no entries", first, nil, p, most, most, true)
			hold(t, "no entries", first, []api.Map{}, nil, most, most, true)
		}
	}
}

func TestPlaces(t *testing.T) {
	offsets := []int{0, 1, 2, 63, 64, 255, 256, 32767, 32768, 65534, 65535}
	for _, a := range offsets {
		got := hold(t, fmt.Sprint("the first offset ", a), start(whole), []api.Map{sameAt(a)}, nil, 1, 0, true)
		exactly(t, "one entry", got, api.Frame{At: a, Locals: list(whole)})
		for _, b := range offsets {
			for _, c := range offsets {
				got := hold(t, fmt.Sprint("offsets ", a, b, c), start(), []api.Map{sameAt(a), sameAt(b), sameAt(c)}, nil, 0, 0, true)
				exactly(t, fmt.Sprint("offsets ", a, b, c), got, api.Frame{At: a}, api.Frame{At: a + b + 1}, api.Frame{At: a + b + c + 2})
			}
		}
	}
	for _, offset := range []int{0, 1, 65535} {
		got := hold(t, "4,096 offsets", start(), slices.Repeat([]api.Map{sameAt(offset)}, 4096), nil, 0, 0, true)
		if last := got[4095].At; last != 4095*(offset+1)+offset {
			t.Errorf("P8.2, 4,096 offsets of %d: the last one is at %d", offset, last)
		}
	}
}

// Where the first frame lies, and what operands it has, says nothing.
func TestFirstFrameElsewhere(t *testing.T) {
	maps := []api.Map{{Tag: 3, Delta: 3}, {Tag: 0}}
	for _, at := range []int{math.MinInt64, -1, 0, 1, 5, math.MaxInt64} {
		first := api.Frame{At: at, Locals: list(whole), Stack: list(wide, wide)}
		got := hold(t, fmt.Sprint("a first frame at ", at), first, maps, nil, 2, 0, true)
		exactly(t, "first frame", got, api.Frame{At: 3, Locals: list(whole, top)}, api.Frame{At: 4, Locals: list(whole, top)})
	}
}

// several are entries of each kind, those at the ends of their spans among
// them.
func several() []api.Map {
	return []api.Map{
		{Tag: 0}, {Tag: 63, Delta: 63}, sameAt(0), sameAt(65535),
		{Tag: 64, Stack: list(whole)}, {Tag: 127, Delta: 63, Stack: list(wide)}, pushAt(5, of(class)), pushAt(0, fresh(9)), {Tag: 65, Delta: 1, Stack: list(top)},
		chopAt(1, 0), chopAt(2, 1), chopAt(3, 300),
		addAt(0, null), addAt(2, wide), addAt(1, wide, of(array)), addAt(0, whole, wide), addAt(9, top, top), addAt(3, wide, wide, wide), addAt(1, this, whole, top),
		fullAt(0, nil, nil), fullAt(7, list(whole, wide, top), nil), fullAt(0, nil, list(wide, whole)), fullAt(1, list(fresh(3), of(class)), list(null, this, fresh(0))), fullAt(1, list(top, wide), list(top, top)),
	}
}

func firsts() []api.Frame {
	return []api.Frame{
		start(), start(top, top, top), start(whole), start(whole, top), start(wide, top), start(wide, top, top), start(this, whole, top, top),
		start(object("a/B"), wide, top, null, top), start(wide, top, wide, top, wide, top), start(top, whole), start(top, wide, top, top, top), start(fresh(4), top, fresh(6)),
	}
}

func TestEachKindBehindEach(t *testing.T) {
	p := pool(t)
	holds, fails := 0, 0
	for n, first := range firsts() {
		for i, a := range several() {
			for j, b := range several() {
				for k, c := range several() {
					maps := []api.Map{a, b, c}
					most := (i + j + k + n) % 5 * 2
					_, is := stated(first, maps, p, 2, most, 3)
					hold(t, fmt.Sprintf("first %d, entries %d %d %d, %d locals", n, i, j, k, most), first, maps, p, most, 3, is)
					if is {
						holds++
					} else {
						fails++
					}
				}
			}
		}
	}
	if holds < 10000 || fails < 10000 {
		t.Errorf("of the tests' entries hold %d and %d do not", holds, fails)
	}
}

// Long rows of entries, drawn by a rule.
func TestRowsOfEntries(t *testing.T) {
	p, kinds := pool(t), several()
	seed, longest := uint32(7), 0
	draw := func(n int) int {
		seed = seed*1664525 + 1013904223
		return int(seed>>8) % n
	}
	for n := range 5000 {
		first := firsts()[draw(len(firsts()))]
		var maps []api.Map
		for range 40 { // as long as the row holds, and one entry more
			maps = append(maps, kinds[draw(len(kinds))])
			if _, is := stated(first, maps, p, len(maps)-1, 9, 3); !is {
				break
			}
		}
		_, is := stated(first, maps, p, len(maps)-1, 9, 3)
		hold(t, fmt.Sprint("row ", n), first, maps, p, 9, 3, is)
		if !is {
			maps = maps[:len(maps)-1]
			hold(t, fmt.Sprintf("row %d, its last left out", n), first, maps, p, 9, 3, true)
		}
		longest = max(longest, len(maps))
	}
	if longest < 10 {
		t.Errorf("the longest row has %d entries", longest)
	}
}

func TestKeptLocals(t *testing.T) {
	p := pool(t)
	first := start(object("a/B"), wide, top, top)
	got := hold(t, "locals stay", first, []api.Map{{Tag: 2, Delta: 2}, {Tag: 64, Stack: list(wide)}, pushAt(1, of(class)), sameAt(2)}, p, 4, 2, true)
	locals := list(object("a/B"), wide, top, top)
	exactly(t, "locals stay", got, api.Frame{At: 2, Locals: locals}, api.Frame{At: 3, Locals: locals, Stack: list(wide)},
		api.Frame{At: 5, Locals: locals, Stack: list(object("a/A"))}, api.Frame{At: 8, Locals: locals})
}

func TestChops(t *testing.T) {
	counted := list(whole, wide, null, wide, top, this)
	locals := list(whole, wide, top, null, wide, top, top, this)
	heads := []int{0, 1, 3, 4, 6, 7, 8} // words of the first so many
	for there := range 7 {
		for n := 1; n <= 3; n++ {
			what := fmt.Sprintf("%d of %d chopped", n, there)
			maps := []api.Map{fullAt(0, counted[:there], nil), chopAt(n, 0)}
			got := hold(t, what, start(), maps, nil, 8, 0, n <= there)
			if n > there {
				continue
			}
			left := slices.Concat(locals[:heads[there-n]], slices.Repeat(list(top), 8-heads[there-n]))
			exactly(t, what, got[1:], api.Frame{At: 1, Locals: left})
			hold(t, what+", and all the rest", start(), append(maps, chopAt(1, 0), chopAt(1, 0)), nil, 8, 0, there-n >= 2)
		}
	}
	for n := 1; n <= 3; n++ {
		for there := range 5 {
			filled := slices.Concat(slices.Repeat(list(wide, top), there), list(top, top, top))
			hold(t, fmt.Sprintf("%d of the first frame's %d longs chopped", n, there), start(filled...), []api.Map{chopAt(n, 3)}, nil, 20, 0, n <= there)
		}
	}
}

// What fills a frame up is no local; a Top that an entry states is one.
func TestTops(t *testing.T) {
	got := hold(t, "append behind what fills up", start(whole, top, top), []api.Map{addAt(0, null)}, nil, 3, 0, true)
	exactly(t, "append behind what fills up", got, api.Frame{Locals: list(whole, null, top)})
	got = hold(t, "append behind Tops", start(whole), []api.Map{addAt(0, top, top), addAt(0, null), chopAt(2, 0), chopAt(1, 0)}, nil, 4, 0, true)
	exactly(t, "append behind Tops", got, api.Frame{Locals: list(whole, top, top, top)}, api.Frame{At: 1, Locals: list(whole, top, top, null)},
		api.Frame{At: 2, Locals: list(whole, top, top, top)}, api.Frame{At: 3, Locals: list(whole, top, top, top)})
	hold(t, "Tops chopped", start(whole), []api.Map{addAt(0, top, top), chopAt(3, 0)}, nil, 4, 0, true)
	hold(t, "more than the Tops chopped", start(), []api.Map{addAt(0, top, top), chopAt(3, 0)}, nil, 4, 0, false)
	hold(t, "what fills up chopped", start(top, top, top), []api.Map{chopAt(1, 0)}, nil, 4, 0, false)
	got = hold(t, "a full frame's Tops", start(), []api.Map{fullAt(0, list(wide, top, top), nil), addAt(0, whole)}, nil, 5, 0, true)
	exactly(t, "a full frame's Tops", got, api.Frame{Locals: list(wide, top, top, top, top)}, api.Frame{At: 1, Locals: list(wide, top, top, top, whole)})
	hold(t, "Tops of one word more", start(), []api.Map{fullAt(0, list(top, top), nil)}, nil, 1, 0, false)
	hold(t, "Tops of one word more", start(), []api.Map{addAt(0, top)}, nil, 0, 0, false)
	hold(t, "an operand Top", start(), []api.Map{pushAt(0, top)}, nil, 0, 1, true)
	hold(t, "an operand Top of one word more", start(), []api.Map{pushAt(0, top)}, nil, 0, 0, false)
}

func TestAppends(t *testing.T) {
	types := list(whole, wide, null, top, this)
	for _, before := range []api.Frame{start(), start(whole), start(wide, top), start(whole, wide, top, top)} {
		for i := range 125 {
			for n := 1; n <= 3; n++ {
				more := list(types[i%5], types[i/5%5], types[i/25])[:n]
				maps := []api.Map{addAt(4, more...)}
				for most := range 12 {
					_, is := stated(before, maps, nil, 0, most, 0)
					hold(t, fmt.Sprintf("append of %v behind %v, %d locals", more, before.Locals, most), before, maps, nil, most, 0, is)
				}
			}
		}
	}
	got := hold(t, "longs appended", start(wide, top), []api.Map{addAt(0, wide, whole, wide), addAt(0, wide)}, nil, 10, 0, true)
	exactly(t, "longs appended", got, api.Frame{Locals: list(wide, top, wide, top, whole, wide, top, top, top, top)},
		api.Frame{At: 1, Locals: list(wide, top, wide, top, whole, wide, top, wide, top, top)})
}

func TestWordsOfFullFrames(t *testing.T) {
	for _, ints := range []int{0, 1, 2, 5, 255, 256} {
		for _, longs := range []int{0, 1, 2, 22} {
			types := slices.Concat(slices.Repeat(list(wide), longs), slices.Repeat(list(whole), ints))
			words := ints + 2*longs
			for _, most := range []int{0, 1, words - 1, words, words + 1, 300, 65535} {
				what := fmt.Sprintf("%d ints, %d longs, at most %d words", ints, longs, most)
				hold(t, what+" of locals", start(whole), []api.Map{fullAt(3, types, nil)}, nil, most, 0, words <= most)
				hold(t, what+" of operands", start(), []api.Map{fullAt(3, nil, types)}, nil, 0, most, words <= most)
				slices.Reverse(types) // a long at the last word
				hold(t, what+" of locals", start(whole), []api.Map{fullAt(3, types, nil)}, nil, most, 0, words <= most)
				hold(t, what+" of operands", start(), []api.Map{fullAt(3, nil, types)}, nil, 0, most, words <= most)
			}
		}
	}
	got := hold(t, "as many words as there may be", start(), []api.Map{fullAt(0, list(whole, wide), list(wide, null))}, nil, 3, 3, true)
	exactly(t, "as many words as there may be", got, api.Frame{Locals: list(whole, wide, top), Stack: list(wide, null)})
}

// The words of a frame that one entry states are held against the greatest
// there may be, not those of the last frame alone.
func TestWordsOfEachFrame(t *testing.T) {
	add, chop := addAt(0, wide, wide), chopAt(2, 0)
	hold(t, "locals for a while", start(), []api.Map{add, chop}, nil, 4, 0, true)
	hold(t, "too many locals for a while", start(), []api.Map{add, chop}, nil, 3, 0, false)
	hold(t, "operands for a while", start(), []api.Map{pushAt(0, wide), sameAt(0)}, nil, 0, 2, true)
	hold(t, "too many operands for a while", start(), []api.Map{pushAt(0, wide), sameAt(0)}, nil, 0, 1, false)
	hold(t, "too many locals, chopped at once", start(whole, wide, top), []api.Map{chopAt(1, 0)}, nil, 1, 0, true)
	hold(t, "too many locals, of which a full frame has none", start(whole, wide, top), []api.Map{fullAt(0, nil, nil)}, nil, 0, 0, true)
	hold(t, "too many locals at the end", start(), []api.Map{sameAt(0), sameAt(0), addAt(0, whole)}, nil, 0, 0, false)
	hold(t, "too many operands at the end", start(), []api.Map{sameAt(0), sameAt(0), pushAt(0, whole)}, nil, 0, 0, false)
	hold(t, "too many locals ahead of a chop of more than there are", start(), []api.Map{add, chopAt(3, 0)}, nil, 0, 0, false)
}

func TestFirstFrames(t *testing.T) {
	maps := []api.Map{sameAt(0)}
	for _, first := range firsts() {
		for most := range 10 {
			_, is := stated(first, maps, nil, 0, most, 0)
			hold(t, fmt.Sprintf("first %v, %d locals", first.Locals, most), first, maps, nil, most, 0, is)
		}
	}
	got := hold(t, "no locals", start(), maps, nil, 3, 0, true)
	exactly(t, "no locals", got, api.Frame{Locals: list(top, top, top)})
	got = hold(t, "longs at the last word", start(wide, top, wide, top), maps, nil, 4, 0, true)
	exactly(t, "longs at the last word", got, api.Frame{Locals: list(wide, top, wide, top)})
	hold(t, "longs of one word more", start(wide, top, wide, top), maps, nil, 3, 0, false)
	got = hold(t, "more that fills up than there is room", start(wide, top, top, top, top), maps, nil, 3, 0, true)
	exactly(t, "more that fills up than there is room", got, api.Frame{Locals: list(wide, top, top)})
	got = hold(t, "a Top between", start(top, whole, top), []api.Map{addAt(0, null), chopAt(3, 0)}, nil, 4, 0, true)
	exactly(t, "a Top between", got, api.Frame{Locals: list(top, whole, null, top)}, api.Frame{At: 1, Locals: list(top, top, top, top)})
	for _, first := range []api.Frame{start(wide), start(wide, whole), start(wide, wide, top)} { // whose longs have no half
		got := hold(t, "longs without their half", first, []api.Map{sameAt(0)}, nil, 4, 0, true)
		if got[0].Locals[0] != wide || got[0].Locals[1] != top {
			t.Errorf("P8.2: of %v: %v", first.Locals, got[0].Locals)
		}
	}
	got = hold(t, "fields that no kind has", start(api.VType{Kind: api.KInt, Name: "a", At: 1}, api.VType{Kind: api.KObj, Name: "b", At: 2}, api.VType{Kind: api.KNew, Name: "c", At: 3}), maps, nil, 3, 0, true)
	exactly(t, "fields that no kind has", got, api.Frame{Locals: list(whole, object("b"), fresh(3))})
}

func TestNames(t *testing.T) {
	p := pool(t)
	both := list(of(class), of(array))
	got := hold(t, "names", start(), []api.Map{addAt(0, both...), pushAt(0, of(array)), fullAt(0, both, both), {Tag: 64, Stack: list(of(class))}}, p, 3, 2, true)
	names := list(object("a/A"), object("[I"), top)
	exactly(t, "names", got, api.Frame{Locals: names}, api.Frame{At: 1, Locals: names, Stack: list(object("[I"))},
		api.Frame{At: 2, Locals: names, Stack: names[:2]}, api.Frame{At: 3, Locals: names, Stack: names[:1]})
	got = hold(t, "fields that no kind has", start(), []api.Map{addAt(0, api.VType{Kind: api.KObj, Name: "x", At: class}, api.VType{Kind: api.KNull, Name: "y", At: 4}, api.VType{Kind: api.KNew, Name: "z", At: 5})}, p, 3, 0, true)
	exactly(t, "fields that no kind has", got, api.Frame{Locals: list(object("a/A"), null, fresh(5))})
	for _, at := range []int{0, 1, 300, 65535} {
		got := hold(t, "an object that is new", start(), []api.Map{addAt(0, fresh(at)), pushAt(0, fresh(at))}, nil, 1, 1, true)
		exactly(t, "an object that is new", got, api.Frame{Locals: list(fresh(at))}, api.Frame{At: 1, Locals: list(fresh(at)), Stack: list(fresh(at))})
	}
}

func TestObjectsThatAreNone(t *testing.T) {
	p := pool(t)
	for _, i := range []int{math.MinInt64, -1, 0, text, 3, str, num, long, long + 1, 9, pair, field, 13, 14, method, ofFace, places, 65535, math.MaxInt64} {
		v := of(i)
		for _, m := range []api.Map{pushAt(0, v), {Tag: 64, Stack: list(v)}, addAt(0, v), addAt(0, whole, v), fullAt(0, list(v), nil), fullAt(0, nil, list(v)), fullAt(0, list(whole), list(whole, v))} {
			hold(t, fmt.Sprintf("an object of entry %d in tag %d", i, m.Tag), start(), []api.Map{m}, p, 9, 9, false)
			hold(t, fmt.Sprintf("an object of entry %d in tag %d, behind another", i, m.Tag), start(), []api.Map{sameAt(0), m}, p, 9, 9, false)
		}
	}
	hold(t, "a class, but no pool", start(), []api.Map{pushAt(0, of(class))}, nil, 9, 9, false)
	for _, broken := range [][]api.Const{{{}, {Tag: api.TClass, A: 5}}, {{}, {Tag: api.TClass, A: -1}}, {{}, {Tag: api.TClass, A: 1}}, {{}, {Tag: api.TClass, A: 0}}, {{}, {Tag: -1, A: 0}}} {
		if got, ok := stackmap.Frames(start(), []api.Map{pushAt(0, of(1))}, broken, 9, 9); ok || len(got) > 0 {
			t.Errorf("P8.2: of a pool %v: %v", broken, got)
		}
	}
}

// Numbers at the end of what is a count, and those that are none.
func TestCounts(t *testing.T) {
	odd := []int{math.MinInt64, math.MinInt64 + 1, -65536, -2, -1}
	for _, most := range odd {
		hold(t, fmt.Sprint("locals at most ", most), start(), []api.Map{sameAt(0)}, nil, most, 0, false)
		hold(t, fmt.Sprint("operands at most ", most), start(), []api.Map{sameAt(0)}, nil, 0, most, false)
		hold(t, fmt.Sprint("both at most ", most), start(whole), []api.Map{sameAt(0)}, nil, most, most, false)
	}
	for _, most := range []int{65535, 65536, math.MaxInt32, math.MaxInt64 - 1, math.MaxInt64} {
		got := hold(t, fmt.Sprint("operands at most ", most), start(), []api.Map{fullAt(0, nil, list(wide, whole))}, nil, 0, most, true)
		exactly(t, "operands", got, api.Frame{Stack: list(wide, whole)})
	}
	hold(t, "nothing at all", start(), []api.Map{sameAt(0), sameAt(0), fullAt(0, nil, nil)}, nil, 0, 0, true)
	hold(t, "nothing at all, and a local", start(), []api.Map{addAt(0, whole)}, nil, 0, 0, false)
	hold(t, "nothing at all, and an operand", start(), []api.Map{pushAt(0, whole)}, nil, 0, 0, false)
	for _, most := range []int{300, 65535, 100000} {
		hold(t, fmt.Sprint("locals at most ", most), start(wide, top), []api.Map{sameAt(0), addAt(0, wide)}, nil, most, 0, true)
	}
}

// More locals than there can be memory for: the call ends all the same.
func TestLocalsWithoutEnd(t *testing.T) {
	for _, most := range []int{math.MaxInt64, math.MaxInt64 - 1, 1 << 62, 1 << 40, 1<<26 + 1} {
		for _, n := range []int{1, 2, 5000} {
			if got, ok := stackmap.Frames(start(), make([]api.Map, n), nil, most, 0); ok || len(got) > 0 {
				t.Fatalf("P0.1, locals at most %d: %d frames", most, len(got))
			}
		}
		if got, ok := stackmap.Frames(start(), nil, nil, most, most); !ok || len(got) > 0 {
			t.Errorf("P8.2, no entries, locals at most %d: %v", most, ok)
		}
	}
}

func TestTagsThatAreNone(t *testing.T) {
	for tag := -300; tag <= 600; tag++ {
		m := api.Map{Tag: tag, Delta: 2}
		is := tag >= 0 && tag <= 127 || tag >= 247 && tag <= 255
		hold(t, fmt.Sprint("tag ", tag), start(whole, whole, whole), []api.Map{m}, nil, 3, 0, is)
		hold(t, fmt.Sprintf("tag %d, behind another", tag), start(whole, whole, whole), []api.Map{sameAt(0), m}, nil, 3, 0, is)
	}
	for _, tag := range []int{math.MinInt64, math.MinInt32, math.MaxInt32, math.MaxInt64 - 251, math.MaxInt64} {
		hold(t, fmt.Sprint("tag ", tag), start(whole, whole, whole), []api.Map{{Tag: tag}}, nil, 3, 0, false)
	}
}

// Lists that are not of an entry's kind say nothing.
func TestListsBesideAnEntry(t *testing.T) {
	odd := list(wide, api.VType{Kind: 99}, of(-1))
	for tag := range 256 {
		m := api.Map{Tag: tag, Locals: odd, Stack: odd}
		if tag > 63 && tag < 128 || tag == 247 {
			m.Stack = list(whole)
		} else if tag > 251 && tag < 255 {
			m.Locals = list(whole, wide, null)[:tag-251]
		} else if tag == 255 {
			m.Locals, m.Stack = nil, nil
		}
		is := tag < 128 || tag > 246
		hold(t, fmt.Sprintf("lists beside tag %d", tag), start(whole, whole, whole), []api.Map{m}, nil, 9, 2, is)
	}
}

func TestOffsetsThatAreNone(t *testing.T) {
	for _, offset := range []int{math.MinInt64, math.MinInt64 + 1, -65536, -2, -1} {
		for _, tag := range []int{0, 63, 251, 255} {
			m := api.Map{Tag: tag, Delta: offset}
			hold(t, fmt.Sprint("the first offset ", offset), start(), []api.Map{m}, nil, 0, 0, false)
			hold(t, fmt.Sprint("offset behind ", offset), start(), []api.Map{sameAt(70000), m}, nil, 0, 0, false)
		}
	}
	got, ok := stackmap.Frames(start(), []api.Map{sameAt(math.MaxInt64)}, nil, 0, 0)
	if !ok || got[0].At != math.MaxInt64 {
		t.Errorf("P8.2, the greatest offset: %v %v", ok, got)
	}
	got, ok = stackmap.Frames(start(), []api.Map{sameAt(1), sameAt(math.MaxInt64 - 2)}, nil, 0, 0)
	if !ok || got[1].At != math.MaxInt64 {
		t.Errorf("P8.2, the greatest place: %v %v", ok, got)
	}
	for _, maps := range [][]api.Map{{sameAt(0), sameAt(math.MaxInt64)}, {sameAt(1), sameAt(math.MaxInt64 - 1)}, {sameAt(math.MaxInt64), sameAt(0)}, {sameAt(math.MaxInt64), sameAt(math.MaxInt64)}} {
		if got, ok := stackmap.Frames(start(), maps, nil, 0, 0); ok || len(got) > 0 {
			t.Errorf("P0.6: a place beyond all numbers: %v", got)
		}
	}
}

func TestKindsThatAreNone(t *testing.T) {
	for kind := -20; kind <= 300; kind++ {
		if kind == api.KObj {
			continue
		}
		v := api.VType{Kind: kind}
		is := kind >= 0 && kind <= 8 && kind != 2 && kind != 3
		for _, m := range []api.Map{pushAt(0, v), {Tag: 64, Stack: list(v)}, addAt(0, v), addAt(0, whole, v), addAt(0, v, whole, whole), fullAt(0, list(v), nil), fullAt(0, nil, list(v))} {
			hold(t, fmt.Sprintf("kind %d in tag %d", kind, m.Tag), start(), []api.Map{m}, nil, 9, 9, is)
			hold(t, fmt.Sprintf("kind %d in tag %d, between others", kind, m.Tag), start(), []api.Map{sameAt(0), m, sameAt(0)}, nil, 9, 9, is)
		}
	}
	for _, kind := range []int{math.MinInt64, math.MaxInt64} {
		hold(t, fmt.Sprint("kind ", kind), start(), []api.Map{addAt(0, api.VType{Kind: kind})}, nil, 9, 9, false)
	}
}

// What Read tells, Frames takes: each byte of a table is changed.
func TestTablesOfBytes(t *testing.T) {
	p := pool(t)
	first := start(object("a/B"), whole, wide, top, null)
	holds := 0
	for i := range rich() {
		for v := range 256 {
			b := rich()
			b[i] = byte(v)
			maps, ok := stackmap.Read(b, p)
			if !ok {
				continue
			}
			_, is := stated(first, maps, p, len(maps)-1, 12, 3)
			hold(t, fmt.Sprintf("byte %d is %d", i, v), first, maps, p, 12, 3, is)
			if is {
				holds++
			}
		}
	}
	if holds < 1000 {
		t.Errorf("of the tests' tables hold %d", holds)
	}
}

// scribbleFrames writes over all that a list of frames holds, spare room too.
func scribbleFrames(frames []api.Frame) {
	frames = frames[:cap(frames)]
	for i, f := range frames {
		scribbleTypes(f.Locals)
		scribbleTypes(f.Stack)
		frames[i] = api.Frame{At: -1}
	}
}

// roomy gives a list with room behind it that holds one mark.
func roomy(types []api.VType) []api.VType {
	all := make([]api.VType, len(types)+4)
	copy(all, types)
	for i := len(types); i < len(all); i++ {
		all[i] = mark
	}
	return all[:len(types)]
}

var mark = api.VType{Kind: 77, Name: "mark", At: 77}

// unmarked tells whether room behind a list was changed.
func unmarked(types []api.VType) bool {
	room := types[len(types):cap(types)]
	return slices.ContainsFunc(room, func(v api.VType) bool { return v != mark })
}

// entries are some that hold behind own, at most 12 locals and 4 operands.
func entries() []api.Map {
	return []api.Map{
		{Tag: 2, Delta: 2}, {Tag: 64, Stack: list(of(class))}, sameAt(9), pushAt(0, wide), addAt(1, null, wide), addAt(0, of(class)), chopAt(2, 0),
		addAt(1, wide, of(array), whole), chopAt(1, 3), addAt(0, this), fullAt(0, list(wide, fresh(4)), list(wide, of(array))), addAt(3, whole), sameAt(0),
	}
}

func own() api.Frame { return start(object("a/B"), wide, top, top) }

func TestMemoryOfFrames(t *testing.T) {
	p := pool(t)
	first := api.Frame{Locals: roomy(own().Locals), Stack: roomy(list(whole))}
	maps := entries()
	for i := range maps {
		maps[i].Locals, maps[i].Stack = roomy(maps[i].Locals), roomy(maps[i].Stack)
	}
	is := hold(t, "entries with room", first, maps, p, 12, 4, true)
	second, _ := stackmap.Frames(first, maps, p, 12, 4)
	scribbleFrames(is)
	third, ok := stackmap.Frames(first, maps, p, 12, 4)
	if !ok || !sameFrames(second, third) {
		t.Error("P0.3: one answer shares memory with another, or with what is handed in")
	}
	if !same(maps, entries()) || !slices.Equal(first.Locals, own().Locals) || !slices.Equal(first.Stack, list(whole)) || !slices.Equal(p, pool(t)) {
		t.Error("P0.3: what is handed in was changed")
	}
	for _, m := range append(maps, api.Map{Locals: first.Locals, Stack: first.Stack}) {
		if unmarked(m.Locals) || unmarked(m.Stack) {
			t.Errorf("P0.3: spare room of tag %d was changed", m.Tag)
		}
	}
	scribble(maps)
	scribbleTypes(first.Locals)
	clear(p)
	for k := range entries() {
		if want, _ := stated(own(), entries(), pool(t), k, 12, 4); shown(third[k]) != want {
			t.Errorf("P0.3: what is handed in is kept in frame %d", k)
		}
	}
}

// Each frame's lists are its own.
func TestFramesAreApart(t *testing.T) {
	p := pool(t)
	is := hold(t, "entries", own(), entries(), p, 12, 4, true)
	for i := range is {
		for _, locals := range []bool{true, false} {
			got, _ := stackmap.Frames(own(), entries(), p, 12, 4)
			mine, kept := &got[i].Stack, is[i].Stack
			if locals {
				mine, kept = &got[i].Locals, is[i].Locals
			}
			scribbleTypes(*mine)
			*mine = kept
			if !sameFrames(got, is) {
				t.Errorf("P0.3: what is written into a list of frame %d is seen in another list", i)
			}
		}
	}
}
