package classfile_test

import (
	"reflect"
	"slices"
	"testing"

	"obelisk/api"
	"obelisk/classfile"
	"obelisk/code"
)

func TestFieldsOfTheAnswer(t *testing.T) {
	f := rich()
	c := f.read(t)
	p := f.entries(t)
	bodies := make([]api.Code, 4)
	for i, words := range map[int]int{0: 3, 2: 0, 3: 1} {
		list := f.methods[i].attributes
		k := slices.IndexFunc(list, func(a attribute) bool { return a.name == f.text("Code") })
		read, ok := code.Read(list[k].contents, p, 52, words)
		if !ok {
			t.Fatal("the tests' body is none")
		}
		bodies[i] = read
	}
	want := &api.Class{
		Major: 52, Pool: p, Flags: 0x421, Name: "a/A", Super: "java/lang/Object", Interfaces: []string{"a/I", "J"},
		Fields: []api.Field{
			{Flags: 8, Name: "i", Desc: "I", Value: f.num(-7)},
			{Flags: 0x1a, Name: "j", Desc: "J", Value: f.long(-1 << 40)},
			{Flags: 8, Name: "s", Desc: "Ljava/lang/String;", Value: f.str("t")},
			{Flags: 4, Name: "i", Desc: "[[La/A;"},
		},
		Methods: []api.Method{
			{Flags: 1, Name: "<init>", Desc: "(J)V", Has: true, Code: bodies[0]},
			{Flags: 0x400, Name: "m", Desc: "()I"},
			{Flags: 8, Name: "<clinit>", Desc: "()V", Has: true, Code: bodies[2]},
			{Flags: 0x18, Name: "m", Desc: "(I)I", Has: true, Code: bodies[3]},
		},
	}
	if !same(c, want) {
		t.Fatalf("P9.1: %+v, want %+v", c, want)
	}
	if len(c.Methods[0].Code.Handlers) != 2 || len(c.Methods[0].Code.Maps) != 2 || c.Pool[c.Fields[1].Value].Num != -1<<40 {
		t.Errorf("P9.1: %+v", c)
	}
}

func TestFieldsThatAreZero(t *testing.T) {
	f := start(0)
	c := f.read(t)
	if want := (&api.Class{Major: 52, Pool: f.entries(t), Name: "a/A", Super: object}); !same(c, want) {
		t.Errorf("P9.1: %+v", c)
	}
	f.flags = class
	f.method(api.Abstract, "x", "(JJ)V", f.attribute("x", []byte{1}))
	f.field(api.Static, "x", "I", f.attribute("x", []byte{1, 2}))
	c = f.read(t)
	if m := c.Methods[0]; m.Has || !sameCode(m.Code, api.Code{}) || c.Fields[0].Value != 0 {
		t.Errorf("P0.2: %+v", c)
	}
}

func TestWhatIsHandedInStays(t *testing.T) {
	whole := rich().bytes()
	for _, b := range [][]byte{whole, whole[:len(whole)-1], whole[:7], append(whole[:8:8], 1, 2, 3), append(slices.Clone(whole), 0), ofSize(65537)} {
		room := append(slices.Clone(b), slices.Repeat([]byte{0x5a}, 100)...)
		for range 2 {
			classfile.Read(room[:len(b)])
			if !slices.Equal(room[:len(b)], b) {
				t.Error("P0.3: what is handed in was changed")
			}
			if slices.ContainsFunc(room[len(b):], func(x byte) bool { return x != 0x5a }) {
				t.Error("P0.3: spare room of what is handed in was changed")
			}
		}
	}
}

// A span is where a list lies in memory, with its spare room.
type span struct {
	what     string
	from, to uintptr
}

// spans gives where all lists within a value lie.
func spans(what string, v reflect.Value) []span {
	var list []span
	switch v.Kind() {
	case reflect.Pointer:
		list = append(spans(what, v.Elem()), span{what, v.Pointer(), v.Pointer() + v.Elem().Type().Size()})
	case reflect.Struct:
		for i := range v.NumField() {
			list = append(list, spans(what+"."+v.Type().Field(i).Name, v.Field(i))...)
		}
	case reflect.Slice:
		if v.Cap() > 0 {
			list = append(list, span{what, v.Pointer(), v.Pointer() + uintptr(v.Cap())*v.Type().Elem().Size()})
		}
		for i := range v.Len() {
			list = append(list, spans(what, v.Index(i))...)
		}
	}
	return list
}

func TestAnswersAreNewMemory(t *testing.T) {
	for _, f := range []*file{rich(), richFace()} {
		b := f.bytes()
		one, _ := classfile.Read(b)
		two, _ := classfile.Read(b)
		all := slices.Concat(spans("the bytes", reflect.ValueOf(b)), spans("one", reflect.ValueOf(one)), spans("two", reflect.ValueOf(two)))
		if len(all) < 12 {
			t.Fatal("too few lists: ", len(all))
		}
		for i, a := range all {
			for _, o := range all[:i] {
				if a.from < o.to && o.from < a.to {
					t.Errorf("P0.3: %s shares memory with %s", a.what, o.what)
				}
			}
		}
	}
}

// scribble writes over all that a class holds.
func scribble(c *api.Class) {
	for i := range c.Methods {
		clear(c.Methods[i].Code.Bytes)
		clear(c.Methods[i].Code.Handlers)
		clear(c.Methods[i].Code.Maps)
	}
	clear(c.Pool)
	clear(c.Interfaces)
	clear(c.Fields)
	clear(c.Methods)
	*c = api.Class{}
}

func TestAnswersAreNotKept(t *testing.T) {
	f := rich()
	b := f.bytes()
	want, _ := model(b)
	one, _ := classfile.Read(b)
	two, _ := classfile.Read(b)
	scribble(one)
	if !same(two, want) {
		t.Error("P0.3: one answer shares memory with another")
	}
	three, err := classfile.Read(b)
	if err != api.OK || !same(three, want) {
		t.Error("P0.3: what is written into an answer changes a later one")
	}
	clear(b)
	if !same(three, want) {
		t.Error("P0.3: what is handed in is kept in an answer")
	}
}

func TestAnswersHangOnArguments(t *testing.T) {
	b, other := rich().bytes(), richFace().bytes()
	wantB, _ := model(b)
	wantOther, _ := model(other)
	for range 3 {
		for _, wrong := range [][]byte{nil, b[:100], other[:9], append(slices.Clone(b), 1), {0xca, 0xfe, 0xba, 0xbe, 0, 0, 0, 53}} {
			if c, err := classfile.Read(wrong); c != nil || err == api.OK {
				t.Fatal("P9.1: ", err)
			}
			if c, err := classfile.Read(b); err != api.OK || !same(c, wantB) {
				t.Fatal("P0.5: ", err)
			}
			if c, err := classfile.Read(other); err != api.OK || !same(c, wantOther) {
				t.Fatal("P0.5: ", err)
			}
		}
	}
}

// Files that ask for as much work as their bytes allow.
func TestGreatFiles(t *testing.T) {
	f := start(class)
	long := "(" + string(slices.Repeat([]byte("I"), 30000)) + ")V"
	for i := range 100 {
		f.fields = append(f.fields, member{0, f.text("x"), f.text(arrayOf(i) + "I"), nil})
	}
	for f.count < 990 {
		f.put(1, []byte{api.TMethod}, u2(f.this), u2(f.pair("x", long)))
	}
	f.hold(t, "a long descriptor that many entries name", true)
	f.does(api.Static, "x", long)
	f.hold(t, "and a method, too", false)
	g := start(class)
	for i := range 13 {
		g.method(api.Static, "x", arrayMethod(i), g.attribute("Code", body(0, 1, make([]byte, 4096), nil)))
	}
	g.hold(t, "bodies of the most bytes", true)
	h := start(class)
	h.attributes = slices.Repeat([]attribute{h.attribute("x", nil)}, 10000)
	h.hold(t, "many attributes", true)
	h.attributes = nil
	want(t, "attributes that lack", append(h.bytes()[:len(h.bytes())-2], 0xff, 0xff), api.EFormat)
}

func arrayMethod(dims int) string { return "(" + arrayOf(dims) + "I)V" }
