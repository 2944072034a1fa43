package stackmap_test

import (
	"fmt"
	"slices"
	"strings"
	"testing"

	"obelisk/api"
	"obelisk/stackmap"
)

// Types of frames.
var (
	top   = api.VType{Kind: api.KTop}
	whole = api.VType{Kind: api.KInt}
	wide  = api.VType{Kind: api.KLong}
	null  = api.VType{Kind: api.KNull}
	this  = api.VType{Kind: api.KThis}
)

func object(name string) api.VType { return api.VType{Kind: api.KObj, Name: name} }
func fresh(at int) api.VType       { return api.VType{Kind: api.KNew, At: at} }

// of gives an object's type as it stands in a table.
func of(entry int) api.VType { return api.VType{Kind: api.KObj, At: entry} }

func list(types ...api.VType) []api.VType { return types }

// start gives a method's own frame.
func start(locals ...api.VType) api.Frame { return api.Frame{Locals: locals} }

// Entries.
func sameAt(offset int) api.Map { return api.Map{Tag: 251, Delta: offset} }
func chopAt(n, offset int) api.Map {
	return api.Map{Tag: 251 - n, Delta: offset}
}
func pushAt(offset int, v api.VType) api.Map {
	return api.Map{Tag: 247, Delta: offset, Stack: list(v)}
}
func addAt(offset int, locals ...api.VType) api.Map {
	return api.Map{Tag: 251 + len(locals), Delta: offset, Locals: locals}
}
func fullAt(offset int, locals, stack []api.VType) api.Map {
	return api.Map{Tag: 255, Delta: offset, Locals: locals, Stack: stack}
}

// letters writes locals as a table counts them, one text each; a frame's own
// are counted from their end on.
func letters(locals []api.VType) []string {
	n := len(locals)
	for n > 0 && locals[n-1].Kind == api.KTop && (n == 1 || locals[n-2].Kind != api.KLong) {
		n--
	}
	var all []string
	half := false
	for _, v := range locals[:n] {
		if half && v.Kind == api.KTop {
			half = false
			continue
		}
		half = v.Kind == api.KLong
		all = append(all, letter(v))
	}
	return all
}

// letter writes a type of a frame; each is one text, a long of two words.
func letter(v api.VType) string {
	switch v.Kind {
	case api.KObj:
		return "L" + v.Name + ";"
	case api.KNew:
		return fmt.Sprint("new", v.At)
	case api.KLong:
		return "J_"
	}
	return map[int]string{api.KTop: "T", api.KInt: "I", api.KNull: "N", api.KThis: "U"}[v.Kind]
}

// written writes types of a table; false: one is none.
func written(types []api.VType, p []api.Const) ([]string, bool) {
	var all []string
	for _, v := range types {
		if v.Kind == api.KObj {
			if v.At < 0 || v.At >= len(p) || p[v.At].Tag != api.TClass {
				return nil, false
			}
			v.Name = p[p[v.At].A].Text
		}
		if v.Kind < 0 || v.Kind > 8 || v.Kind == 2 || v.Kind == 3 {
			return nil, false
		}
		all = append(all, letter(v))
	}
	return all, true
}

// wordsOf counts a long's text as two.
func wordsOf(all []string) int {
	return len(all) + strings.Count(strings.Join(all, " "), "J_")
}

// stated tells the frame of entry k by all the entries up to it, anew each
// time, as one text.
func stated(first api.Frame, maps []api.Map, p []api.Const, k, maxLocals, maxStack int) (string, bool) {
	locals, at := letters(first.Locals), -1
	var stack []string
	for _, m := range maps[:k+1] {
		at += m.Delta + 1
		hasLocals, hasStack := m.Tag >= 252, m.Tag > 63 && m.Tag < 128 || m.Tag == 247 || m.Tag == 255
		more, localsHold := written(m.Locals, p)
		operands, stackHolds := written(m.Stack, p)
		if m.Delta < 0 || hasLocals && !localsHold || hasStack && !stackHolds || m.Tag < 0 || m.Tag > 255 || m.Tag > 127 && m.Tag < 247 {
			return "", false
		}
		stack = nil
		if hasStack {
			stack = operands
		}
		switch m.Tag {
		case 248, 249, 250:
			if len(locals) < 251-m.Tag {
				return "", false
			}
			locals = locals[:len(locals)-(251-m.Tag)]
		case 252, 253, 254:
			locals = slices.Concat(locals, more)
		case 255:
			locals = more
		}
		if wordsOf(locals) > maxLocals || wordsOf(stack) > maxStack {
			return "", false
		}
	}
	rest := slices.Repeat([]string{"T"}, maxLocals-wordsOf(locals))
	return fmt.Sprint(at, slices.Concat(locals, rest), stack), true
}

// shown writes a frame that was told: a long's KTop is `_`.
func shown(f api.Frame) string {
	locals := make([]string, 0, len(f.Locals))
	for i := 0; i < len(f.Locals); i++ {
		s := letter(f.Locals[i])
		if s == "J_" && (i+1 == len(f.Locals) || f.Locals[i+1] != top) {
			s = "J?"
		}
		if s == "J_" {
			i++
		}
		locals = append(locals, s)
	}
	stack := make([]string, 0, len(f.Stack))
	for _, v := range f.Stack {
		stack = append(stack, letter(v))
	}
	return fmt.Sprint(f.At, locals, stack)
}

// clean tells whether each type has no field but those of its kind.
func clean(types []api.VType) bool {
	return !slices.ContainsFunc(types, func(v api.VType) bool {
		return v.Kind != api.KObj && v.Name != "" || v.Kind != api.KNew && v.At != 0
	})
}

// hold holds the answer against the model's, and against whether there should
// be one.
func hold(t *testing.T, what string, first api.Frame, maps []api.Map, p []api.Const, maxLocals, maxStack int, is bool) []api.Frame {
	t.Helper()
	got, ok := stackmap.Frames(first, maps, p, maxLocals, maxStack)
	if ok != is {
		t.Fatalf("P8.2, %s: %v, want %v", what, ok, is)
	}
	if !ok && len(got) > 0 {
		t.Fatalf("P0.2, %s: false, beside %d frames", what, len(got))
	}
	if ok && len(got) != len(maps) {
		t.Fatalf("P8.2, %s: %d frames of %d entries", what, len(got), len(maps))
	}
	all := true
	for k := range maps {
		want, holds := stated(first, maps, p, k, maxLocals, maxStack)
		all = all && holds
		if !ok || !holds {
			continue
		}
		if shown(got[k]) != want || len(got[k].Locals) != maxLocals || !clean(got[k].Locals) || !clean(got[k].Stack) {
			t.Fatalf("P8.2, %s: frame %d: %.300s, want %.300s", what, k, shown(got[k]), want)
		}
	}
	if ok != all {
		t.Fatalf("P8.2, %s: %v, the model: %v", what, ok, all)
	}
	return got
}

// sameFrames tells whether two lists of frames are the same, nil lists and
// empty ones too.
func sameFrames(a, b []api.Frame) bool {
	return slices.EqualFunc(a, b, func(f, g api.Frame) bool {
		return f.At == g.At && slices.Equal(f.Locals, g.Locals) && slices.Equal(f.Stack, g.Stack)
	})
}

// exactly holds an answer against frames that are written out.
func exactly(t *testing.T, what string, got []api.Frame, want ...api.Frame) {
	t.Helper()
	if !sameFrames(got, want) {
		t.Fatalf("P8.2, %s: %.400s, want %.400s", what, fmt.Sprint(got), fmt.Sprint(want))
	}
}
