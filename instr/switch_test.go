package instr_test

import (
	"encoding/binary"
	"math"
	"slices"
	"testing"

	"obelisk/api"
	"obelisk/instr"
)

// opened gives a code with a switch's opcode at a place, and its padding.
func opened(at int, op byte) []byte {
	code := append(slices.Repeat([]byte{0xcd}, at), op)
	for len(code)%4 != 0 {
		code = append(code, 0)
	}
	return code
}

func with(code []byte, numbers ...int) []byte {
	for _, n := range numbers {
		code = binary.BigEndian.AppendUint32(code, uint32(int32(n)))
	}
	return code
}

// table gives a code with a tableswitch at a place: default, low, high, and
// further offsets.
func table(at, byDefault, low, high int, offsets ...int) []byte {
	return with(with(opened(at, 170), byDefault, low, high), offsets...)
}

// lookup gives a code with a lookupswitch at a place: default, and pairs.
func lookup(at, byDefault int, pairs ...int) []byte {
	return with(with(opened(at, 171), byDefault, len(pairs)/2), pairs...)
}

// offsets are n offsets, forth and back.
func offsets(n int) []int {
	l := make([]int, n)
	for i := range l {
		l[i] = (i*7919 + 1) * (1 - i%2*2)
	}
	return l
}

// moved gives the targets that offsets from a place name.
func moved(at int, offsets ...int) []int {
	l := slices.Clone(offsets)
	for i := range l {
		l[i] += at
	}
	return l
}

func TestTableSwitchAtEachPlace(t *testing.T) {
	for at := range 12 {
		for _, n := range []int{1, 2, 3, 10, 998, 999} {
			for _, low := range []int{0, 1, -1, -n, math.MinInt32, math.MaxInt32 - n + 1, -70000, 70000} {
				o := offsets(n)
				code := table(at, -5, low, low+n-1, o...)
				want := api.Instr{At: at, Len: len(code) - at, Op: 170, To: moved(at, append([]int{-5}, o...)...), Keys: []int64{int64(low), int64(low + n - 1)}}
				holds(t, code, at, want, true)
				holds(t, append(code, 1, 2, 3), at, want, true)
			}
		}
	}
}

func TestLookupSwitchAtEachPlace(t *testing.T) {
	for at := range 12 {
		for _, n := range []int{0, 1, 2, 3, 10, 998, 999} {
			for _, first := range []int{0, 1, -1, -3 * n, math.MinInt32, math.MaxInt32 - 3*n + 1, -70000, 70000} {
				code := lookup(at, 100000)
				code = with(code[:len(code)-4], n)
				want := api.Instr{At: at, Op: 171, To: []int{at + 100000}}
				for i, o := range offsets(n) {
					key := first + 3*i
					code = with(code, key, o)
					want.To = append(want.To, at+o)
					want.Keys = append(want.Keys, int64(key))
				}
				want.Len = len(code) - at
				holds(t, code, at, want, true)
				holds(t, append(code, 1, 2, 3), at, want, true)
			}
		}
	}
}

func TestTargetsOfSwitchesAtTheirEnds(t *testing.T) {
	ends := []int{math.MinInt32, math.MinInt32 + 1, -65536, -1, 0, 1, 65536, math.MaxInt32 - 1, math.MaxInt32}
	for at := range 4 {
		for _, d := range ends {
			for _, o := range ends {
				holds(t, table(at, d, 4, 4, o), at, api.Instr{At: at, Len: 3 - at%4 + 17, Op: 170, To: moved(at, d, o), Keys: []int64{4, 4}}, true)
				holds(t, lookup(at, d, 4, o), at, api.Instr{At: at, Len: 3 - at%4 + 17, Op: 171, To: moved(at, d, o), Keys: []int64{4}}, true)
			}
		}
	}
}

func TestEachByteOfPaddingIsANought(t *testing.T) {
	for at := range 12 {
		for _, code := range [][]byte{table(at, 1, 2, 3, 4, 5), lookup(at, 1, 2, 3), lookup(at, 1)} {
			agrees(t, code, at)
			if _, ok := instr.At(code, at); !ok {
				t.Fatalf("no switch at %d", at)
			}
			for i := at + 1; i%4 != 0; i++ {
				for b := 1; b < 256; b++ {
					code[i] = byte(b)
					none(t, code, at)
				}
				code[i] = 0
			}
		}
	}
}

func TestSwitchesCutShort(t *testing.T) {
	for at := range 8 {
		for _, code := range [][]byte{table(at, 1, 2, 2, 4), table(at, 1, -1, 1, 4, 5, 6), lookup(at, 1), lookup(at, 1, 2, 3), lookup(at, 1, 2, 3, 4, 5), table(at, 9, 1, 999, offsets(999)...)} {
			for n := range len(code) {
				none(t, code[:n], at)
				none(t, code[:n:n], at)
			}
			agrees(t, code, at)
		}
	}
}

func TestLowAndHigh(t *testing.T) {
	room := make([]int, 1100)
	ok := func(low, high int, want bool) {
		t.Helper()
		code := table(0, 0, low, high, room...)
		agrees(t, code, 0)
		if _, got := instr.At(code, 0); got != want {
			t.Errorf("low %d, high %d: %v, not %v", low, high, got, want)
		}
	}
	for _, k := range []int{0, 1, -1, 7, math.MinInt32 + 2, math.MaxInt32 - 2, 1 << 16, -1 << 16} {
		ok(k, k, true)
		ok(k, k+1, true)
		ok(k, k+2, true)
		ok(k, k-1, false)
		ok(k, k-2, false)
	}
	ok(math.MinInt32, math.MinInt32, true)
	ok(math.MaxInt32, math.MaxInt32, true)
	ok(math.MinInt32, math.MinInt32+998, true)
	ok(math.MaxInt32-998, math.MaxInt32, true)
	ok(math.MinInt32, math.MaxInt32, false)
	ok(math.MaxInt32, math.MinInt32, false)
	ok(0, math.MaxInt32, false)
	ok(math.MinInt32, 0, false)
	ok(math.MinInt32, -1, false)
	ok(-1, math.MaxInt32-1, false)
	ok(0, -1, false)
	ok(math.MaxInt32, 0, false)
	ok(0, 997, true)
	ok(0, 998, true)
	ok(0, 999, false)
	ok(0, 1000, false)
	ok(0, 1<<30, false)
	ok(0, 1<<30-1, false)
	ok(-500, 498, true)
	ok(-500, 499, false)
}

func TestTargetsAreAtMostAThousand(t *testing.T) {
	for at := range 4 {
		for _, targets := range []int{2, 999, 1000, 1001, 1002, 2000} {
			n := targets - 1
			pairs := make([]int, 2*n)
			for i := range n {
				pairs[2*i] = i
			}
			_, inTable := instr.At(table(at, 0, 1, n, make([]int, n)...), at)
			_, inLookup := instr.At(lookup(at, 0, pairs...), at)
			if want := targets <= 1000; inTable != want || inLookup != want {
				t.Errorf("%d targets at %d: %v %v, not %v", targets, at, inTable, inLookup, want)
			}
		}
	}
}

func TestHowManyPairs(t *testing.T) {
	for _, n := range []int{-1, -2, -1000, math.MinInt32, math.MinInt32 + 1, math.MaxInt32, 1 << 29, 1<<29 + 1, 1 << 30, 1 << 28, 65536, 1000, 999} {
		none(t, with(opened(0, 171), 0, n), 0)
		none(t, with(opened(0, 171), 0, n, 1, 2), 0)
	}
	for n := -3; n <= 6; n++ {
		code := with(opened(2, 171), 7, n, 1, 10, 2, 20, 3, 30, 4, 40)
		if n < 0 || n > 4 {
			none(t, code, 2)
			continue
		}
		want := api.Instr{At: 2, Len: 10 + 8*n, Op: 171, To: moved(2, []int{7, 10, 20, 30, 40}[:n+1]...), Keys: []int64{1, 2, 3, 4}[:n]}
		holds(t, code, 2, want, true)
	}
}

func TestKeysRise(t *testing.T) {
	some := []int{math.MinInt32, math.MinInt32 + 1, -2, -1, 0, 1, 2, 255, 256, math.MaxInt32 - 1, math.MaxInt32}
	for _, a := range some {
		for _, b := range some {
			for _, c := range some {
				code := lookup(3, 1, a, 2, b, 3, c, 4)
				if a < b && b < c {
					holds(t, code, 3, api.Instr{At: 3, Len: 33, Op: 171, To: []int{4, 5, 6, 7}, Keys: []int64{int64(a), int64(b), int64(c)}}, true)
				} else {
					none(t, code, 3)
				}
			}
		}
	}
	for wrong := 1; wrong < 999; wrong++ {
		pairs := make([]int, 2*999)
		for i := range 999 {
			pairs[2*i] = 5 * i
		}
		pairs[2*wrong] = 5*wrong - 5 // the same as the one ahead
		none(t, lookup(0, 1, pairs...), 0)
		pairs[2*wrong] = 5*wrong - 6
		none(t, lookup(0, 1, pairs...), 0)
	}
}

func TestEachByteOfASwitchChanged(t *testing.T) {
	for at := range 4 {
		for _, code := range [][]byte{table(at, 1, -1, 1, 4, 5, 6), lookup(at, 1, -3, 7, 0, 8, 3, 9), lookup(at, 1)} {
			code = append(code, make([]byte, 40)...)
			for i := range len(code) - 40 {
				was := code[i]
				for b := range 256 {
					code[i] = byte(b)
					agrees(t, code, at)
				}
				code[i] = was
			}
		}
	}
}

// soil writes into all that an answer holds, its spare room too.
func soil(in api.Instr) {
	for i := range in.To[:cap(in.To)] {
		in.To[:cap(in.To)][i] = -77
	}
	for i := range in.Keys[:cap(in.Keys)] {
		in.Keys[:cap(in.Keys)][i] = -77
	}
}

func TestTheListsOfASwitchAreNewMemory(t *testing.T) {
	for at := range 4 {
		for _, code := range [][]byte{table(at, 1, -1, 1, 4, 5, 6), lookup(at, 1, -3, 7, 0, 8, 3, 9), lookup(at, 1)} {
			before := slices.Clone(code)
			kept, _ := instr.At(code, at)
			first, _ := instr.At(code, at)
			soil(first)
			if want, _ := model(code, at); !same(kept, want) {
				t.Errorf("another answer changed: %s", told(kept))
			}
			agrees(t, code, at)
			if !slices.Equal(code, before) {
				t.Error("the code changed")
			}
			for i := range code {
				code[i] = 0x55
			}
			if want, _ := model(before, at); !same(kept, want) {
				t.Errorf("the answer hangs on the code: %s", told(kept))
			}
		}
	}
}
