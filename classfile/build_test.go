package classfile_test

import (
	"encoding/binary"
	"slices"
	"strings"
	"testing"

	"obelisk/api"
	"obelisk/classfile"
)

const (
	object  = "java/lang/Object"
	returns = 177
)

// A pool is a constant pool in the making.
type pool struct {
	bytes []byte
	count int
	at    map[string]int
}

func u2(n int) []byte { return binary.BigEndian.AppendUint16(nil, uint16(n)) }
func u4(n int) []byte { return binary.BigEndian.AppendUint32(nil, uint32(n)) }

// put puts an entry behind the others, and gives its number.
func (p *pool) put(places int, parts ...[]byte) int {
	n := p.count
	p.bytes = append(p.bytes, slices.Concat(parts...)...)
	p.count += places
	return n
}

// once is put of an entry that is not there as yet.
func (p *pool) once(places int, parts ...[]byte) int {
	key := string(slices.Concat(parts...))
	if n, ok := p.at[key]; ok {
		return n
	}
	p.at[key] = p.put(places, parts...)
	return p.at[key]
}

func (p *pool) text(s string) int  { return p.once(1, []byte{api.TUtf8}, u2(len(s)), []byte(s)) }
func (p *pool) num(n int) int      { return p.once(1, []byte{api.TInt}, u4(n)) }
func (p *pool) long(n int) int     { return p.once(2, []byte{api.TLong}, u4(n>>32), u4(n)) }
func (p *pool) str(s string) int   { return p.once(1, []byte{api.TString}, u2(p.text(s))) }
func (p *pool) class(s string) int { return p.once(1, []byte{api.TClass}, u2(p.text(s))) }
func (p *pool) pair(name, desc string) int {
	return p.once(1, []byte{api.TName}, u2(p.text(name)), u2(p.text(desc)))
}

func (p *pool) refers(tag int, class, name, desc string) int {
	return p.once(1, []byte{byte(tag)}, u2(p.class(class)), u2(p.pair(name, desc)))
}

// An attribute is one in the making; more is what the length that it tells is
// beyond what there is.
type attribute struct {
	name     int
	contents []byte
	more     int
}

// A member is a field or a method in the making.
type member struct {
	flags, name, desc int
	attributes        []attribute
}

// A file is a class file in the making: numbers of the pool's entries.
type file struct {
	*pool
	magic, minor, major int
	flags, this, super  int
	faces               []int
	fields, methods     []member
	attributes          []attribute
}

// start makes a file of a class, or of an interface, that has nothing in it.
func start(flags int) *file {
	f := &file{pool: &pool{count: 1, at: map[string]int{}}, magic: 0xcafebabe, major: 52, flags: flags}
	f.this, f.super = f.class("a/A"), f.class(object)
	return f
}

func (f *file) bytes() []byte {
	faces := u2(len(f.faces))
	for _, n := range f.faces {
		faces = append(faces, u2(n)...)
	}
	return slices.Concat(u4(f.magic), u2(f.minor), u2(f.major), u2(f.count), f.pool.bytes,
		u2(f.flags), u2(f.this), u2(f.super), faces, members(f.fields), members(f.methods), attributes(f.attributes))
}

func members(list []member) []byte {
	b := u2(len(list))
	for _, m := range list {
		b = append(b, slices.Concat(u2(m.flags), u2(m.name), u2(m.desc), attributes(m.attributes))...)
	}
	return b
}

func attributes(list []attribute) []byte {
	b := u2(len(list))
	for _, a := range list {
		b = append(b, slices.Concat(u2(a.name), u4(len(a.contents)+a.more), a.contents)...)
	}
	return b
}

func (f *file) attribute(name string, contents []byte) attribute {
	return attribute{f.text(name), contents, 0}
}

// body makes the contents of a Code attribute.
func body(stack, locals int, code []byte, rows [][4]int, list ...attribute) []byte {
	b := slices.Concat(u2(stack), u2(locals), u4(len(code)), code, u2(len(rows)))
	for _, h := range rows {
		b = append(b, slices.Concat(u2(h[0]), u2(h[1]), u2(h[2]), u2(h[3]))...)
	}
	return append(b, attributes(list)...)
}

// code makes a Code attribute of a body that has room for locals, and does
// nothing.
func (f *file) code(locals int) attribute {
	return f.attribute("Code", body(0, locals, []byte{returns}, nil))
}

// field puts a field into the file.
func (f *file) field(flags int, name, desc string, list ...attribute) {
	f.fields = append(f.fields, member{flags, f.text(name), f.text(desc), list})
}

// method puts a method into the file.
func (f *file) method(flags int, name, desc string, list ...attribute) {
	f.methods = append(f.methods, member{flags, f.text(name), f.text(desc), list})
}

// does puts a method into the file that has a body with room enough, if its
// flags ask for one.
func (f *file) does(flags int, name, desc string) {
	if flags&api.Abstract != 0 {
		f.method(flags, name, desc)
		return
	}
	f.method(flags, name, desc, f.code(300))
}

// value makes a ConstantValue attribute of an entry.
func (f *file) value(entry int) attribute { return f.attribute("ConstantValue", u2(entry)) }

// rich makes a file of a class that has all there may be.
func rich() *file {
	f := start(api.Public | api.Super | api.Abstract)
	f.faces = []int{f.class("a/I"), f.class("J")}
	f.field(api.Static, "i", "I", f.value(f.num(-7)))
	f.field(api.Private|api.Static|api.Final, "j", "J", f.attribute("x", nil), f.value(f.long(-1<<40)))
	f.field(api.Static, "s", "Ljava/lang/String;", f.value(f.str("t")), f.attribute("Code", []byte{1}))
	f.field(api.Protected, "i", "[[La/A;")
	catch := f.class("a/E")
	frames := slices.Concat(u2(2), []byte{0, 65, 7}, u2(catch))
	f.method(api.Public, "<init>", "(J)V", f.attribute("Code", body(2, 3, slices.Concat(
		[]byte{42, 183}, u2(f.refers(api.TMethod, object, "<init>", "()V")), []byte{178}, u2(f.refers(api.TField, "a/A", "i", "I")), []byte{87, returns}),
		[][4]int{{0, 8, 1, catch}, {1, 4, 7, 0}}, f.attribute("StackMapTable", frames), f.attribute("x", []byte{2}))))
	f.method(api.Abstract, "m", "()I", f.attribute("ConstantValue", nil))
	f.method(api.Static, "<clinit>", "()V", f.code(0))
	f.method(api.Static|api.Final, "m", "(I)I", f.attribute("StackMapTable", []byte{9}), f.attribute("Code", body(1, 1, slices.Concat(
		[]byte{26, 184}, u2(f.refers(api.TIMethod, "a/I", "k", "(I)I")), []byte{172}), nil)))
	f.attributes = []attribute{f.attribute("SourceFile", []byte{0, 1}), f.attribute("Code", nil), f.attribute("", nil)}
	return f
}

// richFace makes a file of an interface that has all there may be.
func richFace() *file {
	f := start(api.Public | api.Interface | api.Abstract)
	f.faces = []int{f.class("a/I")}
	f.field(api.Public|api.Static|api.Final, "z", "Z", f.value(f.num(1)))
	f.field(api.Public|api.Static|api.Final, "o", "La/A;")
	f.method(api.Public|api.Abstract, "m", "(J)V")
	f.method(api.Public, "m", "()V", f.code(1))
	f.method(api.Public|api.Static, "s", "()V", f.code(0))
	f.method(api.Private, "p", "()V", f.code(1))
	f.method(api.Private|api.Static, "q", "()V", f.code(0))
	f.method(api.Static, "<clinit>", "()V", f.code(0))
	f.attributes = []attribute{f.attribute("SourceFile", nil)}
	return f
}

// arrayOf is what stands in a descriptor ahead of the elements.
func arrayOf(dims int) string { return strings.Repeat("[", dims) }

// read gives the class of a file that holds.
func (f *file) read(t testing.TB) *api.Class {
	t.Helper()
	c, err := classfile.Read(f.bytes())
	if err != api.OK || c == nil {
		t.Fatal("P9.1: a file that holds is refused: ", err)
	}
	return c
}
