package code

import (
	"slices"
	"strings"

	"obelisk/api"
	"obelisk/cpool"
	"obelisk/descr"
)

const (
	// constructor is the name of what invokespecial alone may call.
	constructor = "<init>"
	// facesCalled is the version in which invokespecial and invokestatic may
	// call methods of interfaces.
	facesCalled = 52
)

// rules are the static constraints of doc/00-machine.md (M3), with what they
// ask of the body and of its class file.
type rules struct {
	pool   []api.Const
	major  int
	locals int
	begins []bool // by place: does an instruction begin there?
	// words are what the arguments take, by the descriptors met so far: many
	// entries may name one long text, which is read once.
	words map[string]int
}

func rulesOf(body api.Code, all []api.Instr, p []api.Const, major int) rules {
	begins := make([]bool, len(body.Bytes))
	for _, in := range all {
		begins[in.At] = true
	}
	return rules{p, major, body.MaxLocals, begins, make(map[string]int)}
}

// hold tells whether all instructions and rows of handlers are as they must be.
func (r rules) hold(all []api.Instr, rows []api.Handler) bool {
	for _, in := range all {
		if !r.allow(in) {
			return false
		}
	}
	for _, h := range rows {
		if !r.allowRow(h) {
			return false
		}
	}
	return true
}

// allow tells whether an instruction's operands are as they must be.
func (r rules) allow(in api.Instr) bool {
	switch in.Op {
	case 18, 19: // ldc, ldc_w
		return r.has(in.A, api.TInt, api.TString)
	case 20: // ldc2_w
		return r.has(in.A, api.TLong)
	case 178, 179, 180, 181: // getstatic to putfield
		_, _, ok := r.member(in.A, api.TField)
		return ok
	case 182, 183, 184, 185: // invokevirtual to invokeinterface
		return r.allowCall(in)
	case newObject, anewarray, 192, 193, multianewarray: // and checkcast, instanceof
		return r.allowClass(in)
	case 188: // newarray
		return isArrayOf(in.A)
	case 170, 171: // tableswitch, lookupswitch
		return r.allBegin(in.To)
	}
	if jumps(in.Op) {
		return r.beginsAt(in.A)
	}
	words := localWords(in.Op)
	return words == 0 || in.A+words <= r.locals
}

// allowCall tells whether one of the invokes may call what it names.
func (r rules) allowCall(in api.Instr) bool {
	name, desc, ok := r.member(in.A, r.called(in.Op)...)
	switch {
	case !ok:
		return false
	case in.Op == invokeinterface:
		return name != constructor && r.counts(desc, in.B)
	}
	return name != constructor || in.Op == invokespecial
}

// called tells the tags of what one of the invokes may name.
func (r rules) called(op int) []int {
	switch {
	case op == invokeinterface:
		return []int{api.TIMethod}
	case op == invokevirtual || r.major != facesCalled:
		return []int{api.TMethod}
	}
	return []int{api.TMethod, api.TIMethod}
}

// counts tells whether count is what the arguments of a method take, with the
// one that it is called on.
func (r rules) counts(desc string, count int) bool {
	words, met := r.words[desc]
	if !met {
		words = descr.Args(desc)
		r.words[desc] = words
	}
	return words >= 0 && count == 1+words
}

// allowClass tells whether an instruction may take the class that it names.
func (r rules) allowClass(in api.Instr) bool {
	name, ok := cpool.Class(r.pool, in.A)
	if !ok {
		return false
	}
	dims := dimsOf(name)
	switch in.Op {
	case newObject:
		return dims == 0
	case anewarray: // it makes an array of one dimension more
		return dims < api.MaxDims
	case multianewarray:
		return in.B >= 1 && in.B <= api.MaxDims && in.B <= dims
	}
	return true
}

// allowRow tells whether a row of the table of handlers is as it must be.
func (r rules) allowRow(h api.Handler) bool {
	ends := h.To == len(r.begins) || r.beginsAt(h.To)
	_, isClass := cpool.Class(r.pool, h.Type)
	return h.From < h.To && ends && r.beginsAt(h.From) && r.beginsAt(h.At) && (h.Type == 0 || isClass)
}

// beginsAt tells whether an instruction begins at a place, which may be none of
// the code.
func (r rules) beginsAt(at int) bool {
	return at >= 0 && at < len(r.begins) && r.begins[at]
}

func (r rules) allBegin(places []int) bool {
	for _, at := range places {
		if !r.beginsAt(at) {
			return false
		}
	}
	return true
}

// has tells whether entry i is there and has one of the tags.
func (r rules) has(i int, tags ...int) bool {
	return i < len(r.pool) && slices.Contains(tags, r.pool[i].Tag)
}

// member gives the name and the descriptor of the field or method that entry i
// names, if it has one of the tags.
func (r rules) member(i int, tags ...int) (string, string, bool) {
	if !r.has(i, tags...) {
		return "", "", false
	}
	_, name, desc, ok := cpool.Member(r.pool, i)
	return name, desc, ok
}

// dimsOf tells how many dimensions a class has, 0 if it is no array. The pool's
// rules hold: what begins with `[` is an array's descriptor.
func dimsOf(name string) int {
	return len(name) - len(strings.TrimLeft(name, "["))
}
