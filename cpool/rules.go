package cpool

import (
	"obelisk/api"
	"obelisk/descr"
	"obelisk/mutf"
	"obelisk/names"
)

// rules are those of the pool in doc/00-machine.md (M2). Many entries may name
// one long text, so each text is looked at once, ahead of all entries.
type rules struct {
	pool  []api.Const
	texts []uses // zero where the entry is no text
}

// uses are what a text may stand for.
type uses struct {
	text        bool // modified UTF-8
	class       bool // a class's name, or an array's descriptor
	plain       bool // an unqualified name
	constructor bool // <init>
	called      bool // a method's name, but not <init> or <clinit>
	field       bool // a field's descriptor
	method      bool // a method's descriptor
	void        bool // one of a method that returns V
}

func allHold(p []api.Const) bool {
	r := rules{p, make([]uses, len(p))}
	for i, e := range p {
		if e.Tag == api.TUtf8 {
			r.texts[i] = usesOf(e.Text)
		}
	}
	for i := range p {
		if !r.hold(i) {
			return false
		}
	}
	return true
}

func usesOf(s string) uses {
	_, isText := mutf.Decode(s)
	t, isField := descr.Field(s)
	_, result, isMethod := descr.Method(s)
	special := s == "<init>" || s == "<clinit>"
	return uses{
		text:        isText,
		class:       names.Class(s) || t.Kind == '[',
		plain:       names.Plain(s),
		constructor: s == "<init>",
		called:      names.Method(s) && !special,
		field:       isField,
		method:      isMethod,
		void:        result.Kind == 'V',
	}
}

// hold tells whether entry i is as it must be. Whether the entries that it
// names are so, too, is asked when their turn comes.
func (r rules) hold(i int) bool {
	e := r.pool[i]
	switch e.Tag {
	case api.TUtf8:
		return r.texts[i].text
	case api.TString:
		return r.has(e.A, api.TUtf8)
	case api.TClass:
		return r.at(e.A).class
	case api.TName:
		desc := r.at(e.B)
		return r.at(e.A).plain && (desc.field || desc.method)
	case api.TField, api.TMethod, api.TIMethod:
		return r.has(e.A, api.TClass) && r.has(e.B, api.TName) && r.refers(e.Tag, r.pool[e.B])
	}
	return true
}

// refers tells whether a reference with this tag may name what n names.
func (r rules) refers(tag int, n api.Const) bool {
	name, desc := r.at(n.A), r.at(n.B)
	switch {
	case tag == api.TField:
		return desc.field && !name.constructor
	case name.constructor:
		return desc.void && tag == api.TMethod
	}
	return desc.method && name.called
}

func (r rules) has(i, tag int) bool {
	_, ok := entry(r.pool, i, tag)
	return ok
}

// at gives what the text at entry i may stand for; nothing if there is none.
func (r rules) at(i int) uses {
	if !r.has(i, api.TUtf8) {
		return uses{}
	}
	return r.texts[i]
}
