package stackmap

import (
	"math"

	"obelisk/api"
	"obelisk/cpool"
)

// mostFilled bounds the locals of all frames of an answer: more of them would
// take more than the bytes of which DOC.md's Limits speak, and filling them up
// might never end.
const mostFilled = 1 << 26

// Frames gives the frames that the entries of a table state, one each, from the
// method's own on.
func Frames(first api.Frame, maps []api.Map, p []api.Const, maxLocals, maxStack int) ([]api.Frame, bool) {
	if len(maps) > 0 && maxLocals > mostFilled/len(maps) {
		return nil, false
	}
	s := state{pool: p, at: -1, locals: counted(first.Locals)}
	var frames []api.Frame
	for _, m := range maps {
		if !s.move(m.Delta) || !s.change(m) || words(s.locals) > maxLocals || words(s.stack) > maxStack {
			return nil, false
		}
		frames = append(frames, api.Frame{At: s.at, Locals: filled(s.locals, maxLocals), Stack: s.stack})
	}
	return frames, true
}

// state is what the entries state so far. Its locals are as a table counts
// them: a long is one, and what fills a frame up is none.
type state struct {
	pool   []api.Const
	at     int // -1 ahead of all entries
	locals []api.VType
	stack  []api.VType
}

// move goes on to the place of the next frame, which is no place if it does not
// rise or is no int.
func (s *state) move(offset int) bool {
	next := s.at + 1
	if offset < 0 || offset > math.MaxInt-next {
		return false
	}
	s.at = next + offset
	return true
}

// change makes of one frame the one that an entry states behind it.
func (s *state) change(m api.Map) bool {
	s.stack = nil
	switch {
	case m.Tag < 0 || m.Tag > full || m.Tag > lastSingle && m.Tag < single:
		return false
	case m.Tag <= lastSame || m.Tag == same:
		return true
	case m.Tag <= single:
		return s.push(m.Stack)
	case m.Tag < same:
		return s.chop(same - m.Tag)
	case m.Tag <= lastAppend:
		return s.add(m.Locals)
	}
	s.locals = nil
	return s.add(m.Locals) && s.push(m.Stack)
}

func (s *state) chop(n int) bool {
	left := len(s.locals) - n
	if left < 0 {
		return false
	}
	s.locals = s.locals[:left]
	return true
}

func (s *state) add(types []api.VType) bool {
	list, ok := s.named(types)
	s.locals = append(s.locals, list...)
	return ok
}

// push makes the operands, in memory of their own: they become the frame's.
func (s *state) push(types []api.VType) bool {
	list, ok := s.named(types)
	s.stack = list
	return ok
}

// named makes of types as they stand in a table those of a frame.
func (s *state) named(types []api.VType) ([]api.VType, bool) {
	list := make([]api.VType, 0, len(types))
	for _, t := range types {
		v := api.VType{Kind: t.Kind}
		holds := true
		switch t.Kind {
		case api.KTop, api.KInt, api.KLong, api.KNull, api.KThis:
		case api.KObj:
			v.Name, holds = cpool.Class(s.pool, t.At)
		case api.KNew:
			v.At = t.At
		default:
			holds = false
		}
		if !holds {
			return nil, false
		}
		list = append(list, v)
	}
	return list, true
}

// counted makes of a frame's locals those that a table counts.
func counted(locals []api.VType) []api.VType {
	var list []api.VType
	counts := 0
	for i := 0; i < len(locals); i++ {
		v := locals[i]
		list = append(list, bare(v))
		if v.Kind != api.KTop {
			counts = len(list)
		}
		if v.Kind == api.KLong && i+1 < len(locals) && locals[i+1].Kind == api.KTop {
			i++
		}
	}
	return list[:counts]
}

// bare leaves of a frame's type what its kind has.
func bare(v api.VType) api.VType {
	switch v.Kind {
	case api.KObj:
		return api.VType{Kind: v.Kind, Name: v.Name}
	case api.KNew:
		return api.VType{Kind: v.Kind, At: v.At}
	}
	return api.VType{Kind: v.Kind}
}

// filled makes of locals that a table counts a frame's: they are no more than
// most words.
func filled(locals []api.VType, most int) []api.VType {
	list := make([]api.VType, 0, most)
	for _, v := range locals {
		list = append(list, v)
		if v.Kind == api.KLong {
			list = append(list, api.VType{Kind: api.KTop})
		}
	}
	for len(list) < most {
		list = append(list, api.VType{Kind: api.KTop})
	}
	return list
}

// words tells how many words types take.
func words(types []api.VType) int {
	n := len(types)
	for _, v := range types {
		if v.Kind == api.KLong {
			n++
		}
	}
	return n
}
