package builtin

import (
	"obelisk/api"
)

// Names of the classes, those of errors aside.
const (
	lang      = "java/lang/"
	object    = lang + "Object"
	text      = lang + "String"
	builder   = lang + "StringBuilder"
	system    = lang + "System"
	stream    = "java/io/PrintStream"
	throwable = lang + "Throwable"
	exception = lang + "Exception"
	runtime   = lang + "RuntimeException"
	index     = lang + "IndexOutOfBoundsException"
	failure   = lang + "Error"
)

// class is a class that is built in, its members aside.
type class struct {
	name, super string
	final       bool
	thrown      bool // is it Throwable, or one below?
}

// classes goes through all that are built in: those that are told by name, then
// those of the errors.
func classes(yield func(class) bool) {
	byName := []class{
		{name: object},
		{name: text, super: object, final: true},
		{name: builder, super: object, final: true},
		{name: system, super: object, final: true},
		{name: stream, super: object, final: true},
		{name: throwable, super: object, thrown: true},
		{name: exception, super: throwable, thrown: true},
		{name: runtime, super: exception, thrown: true},
		{name: index, super: runtime, thrown: true},
		{name: failure, super: throwable, thrown: true},
	}
	for _, c := range byName {
		if !yield(c) {
			return
		}
	}
	for e := api.EFormat; e <= api.EStringIndex; e++ {
		if !yield(class{name: Name(e), super: superOf(e), thrown: true}) {
			return
		}
	}
}

func find(name string) (class, bool) {
	for c := range classes {
		if c.name == name {
			return c, true
		}
	}
	return class{}, false
}

func (c class) flags() int {
	if c.final {
		return api.Public | api.Super | api.Final
	}
	return api.Public | api.Super
}

func (c class) fields() []api.Field {
	switch c.name {
	case system:
		return []api.Field{{Flags: api.Public | api.Static | api.Final, Name: "out", Desc: "Ljava/io/PrintStream;"}}
	case throwable:
		return []api.Field{{Flags: api.Private, Name: "message", Desc: "Ljava/lang/String;"}}
	}
	return nil
}

func (c class) methods() []api.Method {
	var all []api.Method
	for _, in := range natives() {
		if m, ok := in(c); ok {
			all = append(all, m)
		}
	}
	return all
}
