package classfile

import (
	"slices"

	"obelisk/api"
	"obelisk/cpool"
	"obelisk/cursor"
	"obelisk/descr"
	"obelisk/names"
)

const (
	// object is the super class of each interface.
	object = "java/lang/Object"
	// mostWords is how many words a method's arguments may take.
	mostWords = 255
)

// reader reads the parts of a file, one behind the other, into the class: each
// tells whether its rules hold. That bytes lacked is seen at the end, if a part
// goes on with the noughts that are read then.
type reader struct {
	bytes *cursor.Cursor
	class *api.Class
}

func (r reader) parts() bool {
	return r.pool() && r.self() && r.interfaces() && r.fields() && r.methods() && r.others()
}

func (r reader) pool() bool {
	list, ok := cpool.Read(r.bytes)
	r.class.Pool = list
	return ok
}

// self reads what the class is: its flags, its name and its super class.
func (r reader) self() bool {
	flags := r.bytes.U2()
	name, isClass := r.named()
	super, isSuper := r.named()
	r.class.Flags, r.class.Name, r.class.Super = flags, name, super
	if isInterface(flags) && super != object {
		return false
	}
	return isClass && isSuper && classMayBe(flags)
}

// named reads the number of a class that is no array, and gives its name. (The
// pool's rules hold: it is either a class's name or an array's descriptor.)
func (r reader) named() (string, bool) {
	name, ok := cpool.Class(r.class.Pool, r.bytes.U2())
	return name, ok && names.Class(name)
}

func (r reader) interfaces() bool {
	list, ok := listed(r.bytes, r.named, func(a, b string) bool { return a == b })
	r.class.Interfaces = list
	return ok
}

func (r reader) fields() bool {
	list, ok := listed(r.bytes, r.field, func(a, b api.Field) bool { return a.Name == b.Name && a.Desc == b.Desc })
	r.class.Fields = list
	return ok
}

func (r reader) methods() bool {
	list, ok := listed(r.bytes, r.method, func(a, b api.Method) bool { return a.Name == b.Name && a.Desc == b.Desc })
	r.class.Methods = list
	return ok
}

// others reads the class's own attributes, of which none is known.
func (r reader) others() bool {
	_, ok := r.attributes()
	return ok
}

// listed reads a count and so many items behind it, no two of them the same.
func listed[T any](c *cursor.Cursor, next func() (T, bool), same func(a, b T) bool) ([]T, bool) {
	count := c.U2()
	if count > api.MaxMembers {
		return nil, false
	}
	var list []T
	for range count {
		item, ok := next()
		if !ok || slices.ContainsFunc(list, func(other T) bool { return same(other, item) }) {
			return nil, false
		}
		list = append(list, item)
	}
	return list, true
}

func (r reader) field() (api.Field, bool) {
	flags, name, desc, ok := r.member()
	_, isField := descr.Field(desc)
	if !ok || !isField || !names.Plain(name) || !fieldMayBe(flags, isInterface(r.class.Flags)) {
		return api.Field{}, false
	}
	value, ok := r.value(flags, desc)
	return api.Field{Flags: flags, Name: name, Desc: desc, Value: value}, ok
}

func (r reader) method() (api.Method, bool) {
	flags, name, desc, ok := r.member()
	if !ok || !names.Method(name) || !r.allows(flags, name, desc) {
		return api.Method{}, false
	}
	words := argumentWords(flags, desc)
	if words < 0 || words > mostWords {
		return api.Method{}, false
	}
	body, has, ok := r.body(flags, words)
	return api.Method{Flags: flags, Name: name, Desc: desc, Has: has, Code: body}, ok
}

// member reads what a field and a method begin with: flags, a name and a
// descriptor.
func (r reader) member() (int, string, string, bool) {
	flags := r.bytes.U2()
	name, hasName := cpool.Text(r.class.Pool, r.bytes.U2())
	desc, hasDesc := cpool.Text(r.class.Pool, r.bytes.U2())
	return flags, name, desc, hasName && hasDesc
}

// argumentWords tells how many words a method's arguments take, with the one
// that it is called on; below 0 if the descriptor is no method's.
func argumentWords(flags int, desc string) int {
	words := descr.Args(desc)
	if words < 0 || flags&api.Static != 0 {
		return words
	}
	return words + 1
}
