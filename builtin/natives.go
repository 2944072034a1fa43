package builtin

import (
	"obelisk/api"
)

// native is a method that is built in. It tells how a class declares it, and
// whether that class does: one may stand in several.
type native func(c class) (api.Method, bool)

// natives are all methods that are built in: the first one's number is 1. The
// order is also that of the methods in each class.
func natives() []native {
	return []native{
		method{object, "<init>", "()V"}.in,
		method{object, "equals", "(Ljava/lang/Object;)Z"}.in,
		method{object, "toString", "()Ljava/lang/String;"}.in,

		method{text, "length", "()I"}.in,
		method{text, "charAt", "(I)C"}.in,
		method{text, "concat", "(Ljava/lang/String;)Ljava/lang/String;"}.in,
		method{text, "equals", "(Ljava/lang/Object;)Z"}.in,
		method{text, "intern", "()Ljava/lang/String;"}.in,
		method{text, "toString", "()Ljava/lang/String;"}.in,
		static{text, "valueOf", "(I)Ljava/lang/String;"}.in,
		static{text, "valueOf", "(J)Ljava/lang/String;"}.in,
		static{text, "valueOf", "(C)Ljava/lang/String;"}.in,
		static{text, "valueOf", "(Z)Ljava/lang/String;"}.in,

		method{builder, "<init>", "()V"}.in,
		method{builder, "append", "(Ljava/lang/String;)Ljava/lang/StringBuilder;"}.in,
		method{builder, "append", "(I)Ljava/lang/StringBuilder;"}.in,
		method{builder, "append", "(J)Ljava/lang/StringBuilder;"}.in,
		method{builder, "append", "(C)Ljava/lang/StringBuilder;"}.in,
		method{builder, "append", "(Z)Ljava/lang/StringBuilder;"}.in,
		method{builder, "length", "()I"}.in,
		method{builder, "toString", "()Ljava/lang/String;"}.in,

		constructor{"()V"}.in,
		constructor{"(Ljava/lang/String;)V"}.in,
		method{throwable, "getMessage", "()Ljava/lang/String;"}.in,

		static{system, "arraycopy", "(Ljava/lang/Object;ILjava/lang/Object;II)V"}.in,

		method{stream, "print", "(Ljava/lang/String;)V"}.in,
		method{stream, "print", "(I)V"}.in,
		method{stream, "print", "(J)V"}.in,
		method{stream, "print", "(C)V"}.in,
		method{stream, "print", "(Z)V"}.in,
		method{stream, "print", "(Ljava/lang/Object;)V"}.in,
		method{stream, "println", "(Ljava/lang/String;)V"}.in,
		method{stream, "println", "(I)V"}.in,
		method{stream, "println", "(J)V"}.in,
		method{stream, "println", "(C)V"}.in,
		method{stream, "println", "(Z)V"}.in,
		method{stream, "println", "(Ljava/lang/Object;)V"}.in,
		method{stream, "println", "()V"}.in,
	}
}

// method is one that stands in one class and is called on an object.
type method struct {
	class, name, desc string
}

func (m method) in(c class) (api.Method, bool) {
	if m.class != c.name {
		return api.Method{}, false
	}
	return api.Method{Flags: api.Public, Name: m.name, Desc: m.desc}, true
}

// static is one that stands in one class and is called on nothing.
type static method

func (s static) in(c class) (api.Method, bool) {
	m, ok := method(s).in(c)
	if ok {
		m.Flags |= api.Static
	}
	return m, ok
}

// constructor is one that Throwable and all classes below it have.
type constructor struct {
	desc string
}

func (k constructor) in(c class) (api.Method, bool) {
	if !c.thrown {
		return api.Method{}, false
	}
	return api.Method{Flags: api.Public, Name: "<init>", Desc: k.desc}, true
}
