package instr_test

import (
	"bytes"
	"math"
	"slices"
	"testing"

	"obelisk/api"
	"obelisk/instr"
)

// modelAll tells a code's instructions by the model.
func modelAll(code []byte) ([]api.Instr, bool) {
	if len(code) < 1 || len(code) > 4096 {
		return nil, false
	}
	var l []api.Instr
	for at := 0; at < len(code); {
		in, ok := model(code, at)
		if !ok {
			return nil, false
		}
		l = append(l, in)
		at += in.Len
	}
	return l, true
}

// agreesAll asks for all instructions, and stops the test if the model tells
// others.
func agreesAll(t *testing.T, code []byte) {
	t.Helper()
	before := slices.Clone(code[:cap(code)])
	got, ok := instr.All(code)
	want, wantOK := modelAll(code)
	if ok != wantOK || !slices.EqualFunc(got, want, same) {
		t.Fatalf("All(%s): %d instructions %v, not %d %v", brief(code), len(got), ok, len(want), wantOK)
	}
	if !slices.Equal(code[:cap(code)], before) {
		t.Fatalf("All(%s) changed the code", brief(before))
	}
}

// noneOfAll holds that the code is none.
func noneOfAll(t *testing.T, code []byte) {
	t.Helper()
	if l, ok := instr.All(code); ok || len(l) != 0 {
		t.Errorf("All(%s): %d %v", brief(code), len(l), ok)
	}
}

// sample is a code of instructions of each shape, the switches at places of
// each kind.
func sample() []byte {
	code := []byte{
		0, 2, 8, 10, 45, 66, 16, 0xfe, 17, 0x80, 1, 18, 200, 19, 1, 2, 20, 3, 4, 21, 9, 132, 5, 0xff,
		196, 25, 1, 0, 196, 132, 1, 0, 0xff, 0, 153, 0xff, 0xf0, 167, 0, 3, 178, 0, 1, 184, 0, 2, 185, 0, 3, 4, 0,
		187, 0, 5, 188, 10, 189, 0, 6, 190, 192, 0, 7, 193, 0, 8, 194, 195, 197, 0, 9, 2, 198, 0, 3, 199, 0, 3, 200, 0xff, 0xff, 0, 0,
	}
	for _, n := range []int{0, 0, 0, 1, 0, 1, 2} {
		code = append(code, make([]byte, n)...)
		code = append(code, table(len(code), 1, 5, 6, -2, 3)[len(code):]...)
		code = append(code, make([]byte, n)...)
		code = append(code, lookup(len(code), 1, 5, 6, 7, 8)[len(code):]...)
		code = append(code, make([]byte, n+1)...)
	}
	return append(code, 191, 172, 173, 176, 177)
}

func TestAllOfASample(t *testing.T) {
	code := sample()
	l, ok := instr.All(code)
	if !ok || len(l) < 60 {
		t.Fatalf("%d %v", len(l), ok)
	}
	agreesAll(t, code)
	at := 0
	for _, in := range l {
		if in.At != at || in.Len < 1 {
			t.Fatalf("%s stands at %d", told(in), at)
		}
		agrees(t, code, at)
		at += in.Len
	}
	if at != len(code) {
		t.Errorf("the last one ends at %d of %d", at, len(code))
	}
	if places := switchPlaces(l); len(places) != 4 {
		t.Errorf("the sample's switches stand at %v modulo 4 alone", places)
	}
}

func switchPlaces(l []api.Instr) map[int]bool {
	m := map[int]bool{}
	for _, in := range l {
		if in.Op == 170 {
			m[in.At%4] = true
		}
	}
	return m
}

func TestAllOfEachCutOfASample(t *testing.T) {
	code := sample()
	for n := range len(code) + 1 {
		agreesAll(t, code[:n])
		agreesAll(t, code[:n:n])
		agreesAll(t, code[n:]) // switches at other places
	}
}

func TestAllOfASampleWithEachByteChanged(t *testing.T) {
	code := sample()
	for i := range code {
		was := code[i]
		for _, b := range []byte{0, 1, 11, 132, 168, 170, 171, 177, 185, 186, 196, 200, 201, 255, was ^ 1, was ^ 128} {
			code[i] = b
			agreesAll(t, code)
		}
		code[i] = was
	}
}

func TestAllOfNoneAndOfOne(t *testing.T) {
	noneOfAll(t, nil)
	noneOfAll(t, []byte{})
	noneOfAll(t, sample()[:0])
	for op := range 256 {
		agreesAll(t, []byte{byte(op)})
		agreesAll(t, []byte{byte(op), 0})
		agreesAll(t, []byte{byte(op), 0, 0})
		agreesAll(t, append([]byte{byte(op)}, make([]byte, 24)...))
	}
	for _, code := range [][]byte{{0}, {16, 7}, {196, 132, 0, 1, 0, 2}, table(0, 1, 2, 3, 4, 5), lookup(0, 1)} {
		l, ok := instr.All(code)
		if !ok || len(l) != 1 || l[0].Len != len(code) {
			t.Errorf("All(%s): %d %v", brief(code), len(l), ok)
		}
	}
}

func TestAllWhereOneIsNone(t *testing.T) {
	good := []byte{3, 60, 27, 172}
	for op := range 256 {
		for i := range len(good) + 1 {
			agreesAll(t, slices.Insert(slices.Clone(good), i, byte(op)))
		}
	}
	noneOfAll(t, []byte{3, 11, 172})
	noneOfAll(t, []byte{3, 172, 186})
	noneOfAll(t, []byte{202, 3, 172})
	noneOfAll(t, []byte{3, 172, 16})
	noneOfAll(t, []byte{3, 172, 17, 0})
	noneOfAll(t, []byte{3, 196})
	noneOfAll(t, []byte{3, 185, 0, 1, 1, 1, 177})
}

func TestAllOfManyBytes(t *testing.T) {
	for _, n := range []int{4094, 4095, 4096} {
		l, ok := instr.All(make([]byte, n))
		if !ok || len(l) != n || l[n-1].At != n-1 {
			t.Errorf("%d bytes: %d %v", n, len(l), ok)
		}
		agreesAll(t, bytes.Repeat([]byte{16}, n))
		agreesAll(t, bytes.Repeat([]byte{16, 3, 87}, (n+2)/3)[:n])
		agreesAll(t, append(bytes.Repeat([]byte{0}, n-1), 11))
	}
	for _, n := range []int{4097, 4098, 5000, 8192, 65536, 1 << 20} {
		noneOfAll(t, make([]byte, n))
		noneOfAll(t, make([]byte, 4096, n)[:4097])
	}
	agreesAll(t, make([]byte, 4096, 9000))
	if l, ok := instr.All(table(0, 1, 0, 998, offsets(999)...)); !ok || len(l) != 1 || len(l[0].To) != 1000 {
		t.Error("a switch of 1,000 targets")
	}
	noneOfAll(t, table(0, 1, 0, 999, offsets(1000)...))
}

func TestAtIsToldBeyondTheLongestCode(t *testing.T) {
	code := append(make([]byte, 100000), lookup(100000, 1, 2, 3)[100000:]...)
	agrees(t, code, 100000)
	if _, ok := instr.At(code, 100000); !ok {
		t.Error("no switch there")
	}
}

func TestTheListOfAllIsNewMemory(t *testing.T) {
	code := sample()
	before := slices.Clone(code)
	kept, _ := instr.All(code)
	other, _ := instr.All(code)
	want, _ := modelAll(code)
	for i := range other[:cap(other)] {
		soil(other[:cap(other)][i])
		other[:cap(other)][i] = api.Instr{At: -77}
	}
	if !slices.EqualFunc(kept, want, same) {
		t.Error("another answer changed")
	}
	agreesAll(t, code)
	// no two lists of one answer share memory, the spare room neither
	for i := range kept {
		soil(kept[i])
		kept[i].To, kept[i].Keys = want[i].To, want[i].Keys
		for j := i + 1; j < len(kept); j++ {
			if !same(kept[j], want[j]) {
				t.Fatalf("instructions %d and %d share memory", i, j)
			}
		}
	}
	if !slices.Equal(code, before) {
		t.Error("the code changed")
	}
}

func TestFalls(t *testing.T) {
	ends := map[string]bool{"goto": true, "goto_w": true, "tableswitch": true, "lookupswitch": true, "ireturn": true, "lreturn": true, "areturn": true, "return": true, "athrow": true}
	k := opcodes()
	for op := -300; op <= 600; op++ {
		if want := k[op] && !ends[forms[op].name]; instr.Falls(op) != want {
			t.Errorf("Falls(%d): %v", op, !want)
		}
	}
	for op := range k {
		for _, far := range []int{256, 512, 1 << 16, 1 << 31, 1 << 32, 1 << 62, math.MinInt, -256, -1 << 32} {
			if instr.Falls(op + far) {
				t.Errorf("Falls(%d)", op+far)
			}
		}
	}
	for _, op := range []int{math.MaxInt, math.MinInt, math.MaxInt - 1, math.MinInt + 1, math.MaxInt32, math.MinInt32, math.MaxUint32, math.MaxUint32 + 1} {
		if instr.Falls(op) {
			t.Errorf("Falls(%d)", op)
		}
	}
}

func TestFallsByNumber(t *testing.T) {
	for _, op := range []int{167, 170, 171, 172, 173, 176, 177, 191, 200, -1, 11, 15, 23, 24, 168, 169, 174, 175, 186, 201, 202, 255, 256, 300} {
		if instr.Falls(op) {
			t.Errorf("Falls(%d)", op)
		}
	}
	for _, op := range []int{0, 10, 16, 96, 153, 166, 178, 182, 185, 190, 192, 194, 195, 196, 197, 198, 199} {
		if !instr.Falls(op) {
			t.Errorf("not Falls(%d)", op)
		}
	}
}
