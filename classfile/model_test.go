package classfile_test

import (
	"encoding/binary"
	"fmt"
	"regexp"
	"slices"
	"testing"

	"obelisk/api"
	"obelisk/classfile"
	"obelisk/code"
	"obelisk/cpool"
	"obelisk/cursor"
	"obelisk/descr"
)

// wrong is what the model stops at.
type wrong api.Error

// model tells a class by a reader that knows nothing of the package: it stops
// at the first thing that is wrong. The layers below tell it pools and bodies.
func model(b []byte) (c *api.Class, err api.Error) {
	defer func() {
		switch w := recover().(type) {
		case nil:
		case wrong:
			c, err = nil, api.Error(w)
		default:
			panic(w)
		}
	}()
	k := &taker{b}
	if len(b) < 8 || k.u4() != 0xcafebabe {
		panic(wrong(api.EFormat))
	}
	version := [2]int{k.u2(), k.u2()}
	if version != [2]int{0, 50} && version != [2]int{0, 51} && version != [2]int{0, 52} {
		panic(wrong(api.EVersion))
	}
	must(len(b) <= 65536)
	c = &api.Class{Major: version[1], Pool: k.pool()}
	k.class(c)
	must(len(k.b) == 0)
	return c, api.OK
}

func must(is bool) {
	if !is {
		panic(wrong(api.EFormat))
	}
}

// A taker takes bytes from the front.
type taker struct{ b []byte }

func (k *taker) bytes(n int) []byte {
	must(n <= len(k.b))
	b := k.b[:n]
	k.b = k.b[n:]
	return b
}

func (k *taker) u2() int { return int(binary.BigEndian.Uint16(k.bytes(2))) }
func (k *taker) u4() int { return int(binary.BigEndian.Uint32(k.bytes(4))) }

// most takes a count of what there may be a hundred of.
func (k *taker) most() int {
	n := k.u2()
	must(n <= 100)
	return n
}

func (k *taker) pool() []api.Const {
	c := cursor.New(k.b)
	p, ok := cpool.Read(c)
	must(ok)
	k.bytes(c.At())
	return p
}

func entry(p []api.Const, i, tag int) api.Const {
	must(i < len(p) && p[i].Tag == tag)
	return p[i]
}

func text(p []api.Const, i int) string { return entry(p, i, api.TUtf8).Text }

func className(p []api.Const, i int) string {
	name := text(p, entry(p, i, api.TClass).A)
	must(name[0] != '[')
	return name
}

func (k *taker) class(c *api.Class) {
	c.Flags = k.u2()
	c.Name = className(c.Pool, k.u2())
	c.Super = className(c.Pool, k.u2())
	must(classSets[c.Flags])
	face := c.Flags/512%2 == 1
	must(!face || c.Super == "java/lang/Object")
	for range k.most() {
		c.Interfaces = append(c.Interfaces, className(c.Pool, k.u2()))
	}
	apart(c.Interfaces)
	var fields, methods []string
	for range k.most() {
		f := k.field(c.Pool, face)
		c.Fields, fields = append(c.Fields, f), append(fields, f.Name+" ; "+f.Desc)
	}
	for range k.most() {
		m := k.method(c, face)
		c.Methods, methods = append(c.Methods, m), append(methods, m.Name+" ; "+m.Desc)
	}
	apart(fields)
	apart(methods)
	k.attributes(c.Pool)
}

// apart: no two texts are the same.
func apart(list []string) {
	list = slices.Sorted(slices.Values(list))
	must(len(slices.Compact(list)) == len(list))
}

var (
	ofField  = regexp.MustCompile(`^[^.;[/]+$`)
	ofMethod = regexp.MustCompile(`^([^.;[/<>]+|<init>|<clinit>)$`)
)

func (k *taker) field(p []api.Const, face bool) api.Field {
	f := api.Field{Flags: k.u2(), Name: text(p, k.u2()), Desc: text(p, k.u2())}
	_, ok := descr.Field(f.Desc)
	must(ok && ofField.MatchString(f.Name))
	must(face && f.Flags == 0x19 || !face && fieldSets[f.Flags])
	for _, b := range k.attributes(p)["ConstantValue"] {
		must(f.Value == 0 && len(b) == 2 && f.Flags&8 != 0)
		f.Value = int(b[0])*256 + int(b[1])
		tag := map[string]int{"B": 3, "C": 3, "I": 3, "S": 3, "Z": 3, "J": 5, "Ljava/lang/String;": 8}[f.Desc]
		must(tag > 0)
		entry(p, f.Value, tag)
	}
	return f
}

func (k *taker) method(c *api.Class, face bool) api.Method {
	m := api.Method{Flags: k.u2(), Name: text(c.Pool, k.u2()), Desc: text(c.Pool, k.u2())}
	args, result, ok := descr.Method(m.Desc)
	must(ok && ofMethod.MatchString(m.Name))
	sets := methodSets
	switch {
	case m.Name == "<clinit>":
		sets = map[int]bool{8: true}
		must(m.Desc == "()V")
	case m.Name == "<init>":
		sets = map[int]bool{0: true, 1: true, 2: true, 4: true}
		must(!face && result.Kind == 'V')
	case face && c.Major == 52:
		sets = faceSets
	case face:
		sets = map[int]bool{0x401: true}
	}
	must(sets[m.Flags])
	words := 1 - m.Flags/8%2
	for _, a := range args {
		words++
		if a.Kind == 'J' {
			words++
		}
	}
	must(words < 256)
	bodies := k.attributes(c.Pool)["Code"]
	must(len(bodies) == 1-m.Flags/1024%2)
	for _, b := range bodies {
		m.Code, m.Has = code.Read(b, c.Pool, c.Major, words)
		must(m.Has)
	}
	return m
}

// attributes gives the contents of each name's.
func (k *taker) attributes(p []api.Const) map[string][][]byte {
	m := map[string][][]byte{}
	for range k.u2() {
		name := text(p, k.u2())
		m[name] = append(m[name], k.bytes(k.u4()))
	}
	return m
}

// The sets of flags that there may be: of classes and interfaces, of fields of
// classes, of methods of classes and of interfaces of the last version.
var (
	classSets  = sums([]int{0, 0x1}, []int{0, 0x20}, []int{0, 0x10, 0x400, 0x600})
	fieldSets  = sums([]int{0, 1, 2, 4}, []int{0, 8}, []int{0, 0x10})
	methodSets = union(fieldSets, sums([]int{0x400}, []int{0, 1, 4}))
	faceSets   = sums([]int{0}, []int{1, 9, 2, 10, 0x401})
)

// sums are the sums of one of each list.
func sums(lists ...[]int) map[int]bool {
	m := map[int]bool{0: true}
	for _, list := range lists {
		next := map[int]bool{}
		for n := range m {
			for _, more := range list {
				next[n+more] = true
			}
		}
		m = next
	}
	return m
}

func union(a, b map[int]bool) map[int]bool {
	m := map[int]bool{}
	for n := range a {
		m[n] = true
	}
	for n := range b {
		m[n] = true
	}
	return m
}

// same tells whether two classes are the same, nil lists and empty ones too.
func same(a, b *api.Class) bool {
	if a == nil || b == nil {
		return a == b
	}
	return a.Major == b.Major && slices.Equal(a.Pool, b.Pool) && a.Flags == b.Flags && a.Name == b.Name && a.Super == b.Super &&
		slices.Equal(a.Interfaces, b.Interfaces) && slices.Equal(a.Fields, b.Fields) && slices.EqualFunc(a.Methods, b.Methods, func(m, n api.Method) bool {
		return m.Flags == n.Flags && m.Name == n.Name && m.Desc == n.Desc && m.Has == n.Has && sameCode(m.Code, n.Code)
	})
}

func sameCode(a, b api.Code) bool {
	return a.MaxStack == b.MaxStack && a.MaxLocals == b.MaxLocals && slices.Equal(a.Bytes, b.Bytes) &&
		slices.Equal(a.Handlers, b.Handlers) && slices.EqualFunc(a.Maps, b.Maps, func(m, n api.Map) bool {
		return m.Tag == n.Tag && m.Delta == n.Delta && slices.Equal(m.Locals, n.Locals) && slices.Equal(m.Stack, n.Stack)
	})
}

// short tells a class by the beginning of its text.
func short(c *api.Class) string {
	if c == nil {
		return "none"
	}
	s := fmt.Sprintf("%+v", *c)
	return s[:min(len(s), 500)]
}

// want holds the answer against the error that it should be, and against the
// model's.
func want(t *testing.T, what string, b []byte, err api.Error) {
	t.Helper()
	if got := wantModel(t, what, b); got != err {
		t.Fatalf("P9.1, %s: error %d, want %d", what, got, err)
	}
}

// wantModel holds the answer against the model's, and tells the error; beside
// an error stands nil.
func wantModel(t *testing.T, what string, b []byte) api.Error {
	t.Helper()
	c, err := classfile.Read(b)
	if (c == nil) != (err != api.OK) {
		t.Fatalf("P9.1, %s: error %d, beside %s", what, err, short(c))
	}
	if m, is := model(b); err != is || !same(c, m) {
		t.Fatalf("P9.1, %s: error %d, %s, the model: error %d, %s", what, err, short(c), is, short(m))
	}
	return err
}

// hold is want of a file, which either holds or is wrong in its format.
func (f *file) hold(t *testing.T, what string, is bool) {
	t.Helper()
	want(t, what, f.bytes(), errorOf(is))
}

func errorOf(is bool) api.Error {
	if is {
		return api.OK
	}
	return api.EFormat
}
