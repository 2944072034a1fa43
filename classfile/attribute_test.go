package classfile_test

import (
	"fmt"
	"math"
	"slices"
	"strings"
	"testing"

	"obelisk/api"
)

// holders put attributes where they may stand: of the class, of a field that is
// not static and one that is, of a method with a body and one without, of a
// body.
var holders = []struct {
	where string
	put   func(f *file, list ...attribute)
}{
	{"the class", func(f *file, list ...attribute) { f.attributes = append(f.attributes, list...) }},
	{"a field", func(f *file, list ...attribute) { f.field(0, "x", "I", list...) }},
	{"a static field", func(f *file, list ...attribute) {
		f.field(api.Static, "x", "I", append(list, f.value(f.num(1)))...)
	}},
	{"a method", func(f *file, list ...attribute) { f.method(0, "x", "()V", append(list, f.code(1))...) }},
	{"an abstract method", func(f *file, list ...attribute) { f.method(api.Abstract, "x", "()V", list...) }},
	{"a body", func(f *file, list ...attribute) {
		f.method(0, "x", "()V", f.attribute("Code", body(0, 1, []byte{returns}, nil, list...)))
	}},
}

func TestUnknownAttributes(t *testing.T) {
	for _, h := range holders {
		for _, name := range []string{"", "x", "Synthetic", "Deprecated", "Signature", "SourceFile", "InnerClasses", "BootstrapMethods", "Exceptions", "LineNumberTable",
			"code", "Code ", "Cod", "Codes", "constantValue", "ConstantValu", "ConstantValues", "StackMap", "stackMapTable", "StackMapTables", "\xc0\x80"} {
			for _, contents := range [][]byte{nil, {0}, {0, 0}, {255, 255, 255}, make([]byte, 5000)} {
				f, g := start(class), start(class)
				h.put(f, f.attribute(name, contents))
				f.hold(t, fmt.Sprintf("attribute %q of %s", name, h.where), true)
				a := g.attribute(name, contents)
				h.put(g, a, a, g.attribute("y", nil), a)
				g.hold(t, fmt.Sprintf("attributes %q of %s", name, h.where), true)
			}
		}
	}
}

// What is known in one place is not in another.
func TestKnownAttributesElsewhere(t *testing.T) {
	places := map[string][]string{
		"ConstantValue": {"the class", "a method", "an abstract method", "a body"},
		"Code":          {"the class", "a field", "a static field", "a body"},
		"StackMapTable": {"the class", "a field", "a static field", "a method", "an abstract method"},
	}
	for name, list := range places {
		for _, h := range holders {
			for _, contents := range [][]byte{{}, {9}, {255, 255}, {255, 255, 255}} {
				for n := 1; n <= 3; n++ {
					f := start(class)
					h.put(f, slices.Repeat([]attribute{f.attribute(name, contents)}, n)...)
					f.hold(t, fmt.Sprintf("%d of %s of %s", n, name, h.where), slices.Contains(list, h.where))
				}
			}
		}
	}
}

func TestNamesOfAttributes(t *testing.T) {
	ready := func() *file {
		f := all()
		f.text("Code")
		f.value(f.num(1))
		return f
	}
	f := ready()
	p := f.entries(t)
	for _, h := range holders {
		for _, n := range f.numbers() {
			if n < len(p) && p[n].Text == "Code" {
				continue // it is not passed over everywhere
			}
			is := n < len(p) && p[n].Tag == api.TUtf8
			if is && p[n].Text == "ConstantValue" {
				is = !strings.HasSuffix(h.where, "field")
			}
			f, g := ready(), ready()
			h.put(f, attribute{n, nil, 0})
			f.hold(t, fmt.Sprint("the name of an attribute of ", h.where, " is entry ", n), is)
			x := g.attribute("x", []byte{0, 0})
			h.put(g, x, attribute{n, []byte{1}, 0}, x)
			wantModel(t, fmt.Sprint("the name of the second attribute of ", h.where, " is entry ", n), g.bytes())
		}
	}
}

func TestLengthsOfAttributes(t *testing.T) {
	for _, h := range holders {
		for _, more := range []int{-3, -2, -1, 1, 2, 3, 100, 255, 256, 65535, 65536, math.MaxInt32 - 3, math.MaxInt32 - 2, math.MaxUint32 - 3} {
			f := start(class)
			h.put(f, attribute{f.text("x"), []byte{0, 0, 0}, more})
			wantModel(t, fmt.Sprint("an attribute's length of ", h.where, " is more by ", more), f.bytes())
			if h.where == "the class" || more > 50 {
				f.hold(t, fmt.Sprint("an attribute's length of ", h.where, " is more by ", more), false)
			}
		}
	}
}

func TestManyAttributes(t *testing.T) {
	for _, n := range []int{100, 101, 255, 256, 5000} {
		for _, h := range holders {
			f := start(class)
			list := slices.Repeat([]attribute{f.attribute("x", nil)}, n)
			h.put(f, list...)
			f.hold(t, fmt.Sprint(n, " attributes of ", h.where), true)
		}
	}
}

// constants are entries of each tag, of a file.
func constants(f *file) map[string]int {
	return map[string]int{
		"Integer": f.num(1), "Long": f.long(2), "String": f.str("t"), "Utf8": f.text("t"), "Class": f.class("b/B"),
		"Fieldref": f.refers(api.TField, "b/B", "x", "I"), "Methodref": f.refers(api.TMethod, "b/B", "x", "()V"),
		"InterfaceMethodref": f.refers(api.TIMethod, "b/B", "x", "()V"), "NameAndType": f.pair("x", "I"),
		"none": 0, "behind a Long": f.long(2) + 1, "beyond": 500, "far beyond": 65535,
	}
}

// valueOf tells what may be the value of a field of each descriptor.
var valueOf = map[string]string{
	"B": "Integer", "C": "Integer", "I": "Integer", "S": "Integer", "Z": "Integer", "J": "Long", "Ljava/lang/String;": "String",
	"Ljava/lang/Object;": "", "Ljava/lang/Integer;": "", "Ljava/lang/Strin;": "", "Ljava/lang/Strings;": "", "Lstring;": "", "[I": "", "[J": "", "[Ljava/lang/String;": "", "LI;": "", "LJ;": "",
}

func TestValues(t *testing.T) {
	for desc, takes := range valueOf {
		for what, entry := range constants(start(class)) {
			for flags := range fieldSets {
				f := start(class)
				constants(f)
				f.field(flags, "x", desc, f.value(entry))
				is := what == takes && flags&api.Static != 0
				f.hold(t, fmt.Sprintf("a field %x of %s whose value is %s", flags, desc, what), is)
				if is {
					if c := f.read(t); c.Fields[0].Value != entry {
						t.Errorf("P9.1: Value %d, want %d", c.Fields[0].Value, entry)
					}
				}
			}
			f := start(face)
			constants(f)
			f.field(0x19, "x", desc, f.value(entry))
			f.hold(t, fmt.Sprintf("an interface's field of %s whose value is %s", desc, what), what == takes)
		}
	}
}

func TestIntegersOfEachSize(t *testing.T) {
	for _, desc := range []string{"B", "C", "I", "S", "Z"} {
		for _, n := range []int{0, 1, -1, 2, 127, 128, 255, 256, 32768, 65535, 65536, math.MaxInt32, math.MinInt32} {
			f := start(class)
			f.field(api.Static, "x", desc, f.value(f.num(n)))
			f.hold(t, fmt.Sprintf("%d of %s", n, desc), true)
		}
	}
}

func TestBytesOfValues(t *testing.T) {
	f := start(class)
	n := u2(f.num(1))
	for _, contents := range [][]byte{nil, n[:1], n[1:], n, append(n, 0), append(n, n...), append([]byte{0}, n...), append([]byte{0, 0}, n...)} {
		f.fields = nil
		f.field(api.Static, "x", "I", f.attribute("ConstantValue", contents))
		f.hold(t, fmt.Sprint("a value of ", contents), slices.Equal(contents, n))
		f.field(0, "y", "I")
		f.hold(t, fmt.Sprint("a value of ", contents, ", a field behind"), slices.Equal(contents, n))
	}
}

func TestValuesTwice(t *testing.T) {
	f := start(class)
	one, two, x := f.value(f.num(1)), f.value(f.num(2)), f.attribute("x", nil)
	for _, list := range [][]attribute{{one, one}, {one, two}, {one, x, one}, {x, one, two, x}, {one, one, one}} {
		f.fields = nil
		f.field(api.Static, "x", "I", list...)
		f.hold(t, "more than one value", false)
	}
	// Another entry of the same text names the same attribute.
	two.name = f.put(1, []byte{api.TUtf8}, u2(13), []byte("ConstantValue"))
	f.fields = nil
	f.field(api.Static, "x", "I", two)
	f.hold(t, "a value by another entry", true)
	f.fields[0].attributes = []attribute{one, two}
	f.hold(t, "two values by two entries", false)
	f.fields = nil
	f.field(api.Static, "x", "I", one)
	f.field(api.Static, "y", "I", one)
	f.field(api.Static, "z", "I", x, two)
	f.hold(t, "a value each", true)
}

func TestCodeIsThereOnce(t *testing.T) {
	f := start(class)
	code, other, x := f.code(1), f.attribute("Code", body(0, 2, []byte{0, returns}, nil)), f.attribute("x", nil)
	lists := [][]attribute{nil, {x}, {code}, {x, code, x}, {code, code}, {code, other}, {other, x, code}, {code, code, code}, {f.attribute("Code", nil)}, {f.attribute("ConstantValue", nil)}}
	for i, list := range lists {
		for kind, sets := range map[int]map[int]bool{class: methodSets, face: faceSets} {
			for flags := range sets {
				g := start(kind)
				g.pool = f.pool
				g.method(flags, "x", "()V", list...)
				is := i == 2 || i == 3
				if flags&api.Abstract != 0 {
					is = i < 2 || i == 9
				}
				g.hold(t, fmt.Sprintf("a method %x of %s with attributes %d", flags, kindOf(kind), i), is)
			}
		}
	}
	again := f.code(1)
	again.name = f.put(1, []byte{api.TUtf8}, u2(4), []byte("Code"))
	f.method(0, "x", "()V", again)
	f.hold(t, "Code by another entry", true)
	f.methods[0].attributes = []attribute{code, again}
	f.hold(t, "Code by two entries", false)
}

func TestSpecialMethodsHaveCode(t *testing.T) {
	for _, kind := range []int{class, face} {
		f := start(kind)
		f.method(api.Static, "<clinit>", "()V")
		f.hold(t, "<clinit> without a body", false)
	}
	f := start(class)
	f.method(0, "<init>", "()V")
	f.hold(t, "<init> without a body", false)
}

// Locals are not below the arguments, with the one that the method is called on.
func TestLocalsAndArguments(t *testing.T) {
	for desc, words := range map[string]int{"()V": 0, "(I)V": 1, "(J)V": 2, "(IJ)I": 3, "([J)V": 1, "(La/A;JJ)J": 5} {
		for locals := range 9 {
			for flags := range fieldSets {
				least := words
				if flags&api.Static == 0 {
					least++
				}
				f := start(class)
				f.method(flags, "x", desc, f.code(locals))
				f.hold(t, fmt.Sprintf("%d locals of a method %x %s", locals, flags, desc), locals >= least)
			}
			f := start(class)
			f.method(0, "<init>", "(J)V", f.code(locals))
			f.hold(t, fmt.Sprint(locals, " locals of <init>"), locals >= 3)
			f = start(face)
			f.method(api.Private, "x", desc, f.code(locals))
			f.method(api.Public|api.Static, "y", desc, f.code(300))
			f.hold(t, fmt.Sprint(locals, " locals of an interface's method"), locals > words)
			f.methods[1].attributes = []attribute{f.code(locals)}
			f.methods[0].attributes = []attribute{f.code(300)}
			f.hold(t, fmt.Sprint(locals, " locals of an interface's static method"), locals >= words)
		}
	}
	for _, most := range []int{254, 255, 256, 300, 301} {
		f := start(class)
		f.method(api.Static, "x", "("+string(slices.Repeat([]byte("I"), 255))+")V", f.code(most))
		f.hold(t, fmt.Sprint(most, " locals for 255 arguments"), most == 255 || most == 256 || most == 300)
	}
}

// What a body may be is asked of package code; some of what is wrong there.
func TestBodies(t *testing.T) {
	f := start(class)
	c := f.class("a/E")
	for i, b := range []struct {
		contents []byte
		is       bool
	}{
		{body(0, 1, []byte{returns}, nil), true},
		{body(300, 300, make([]byte, 4096), [][4]int{{0, 4096, 4095, c}}), true},
		{body(301, 1, []byte{returns}, nil), false},
		{body(0, 301, []byte{returns}, nil), false},
		{body(0, 1, nil, nil), false},
		{body(0, 1, make([]byte, 4097), nil), false},
		{body(0, 1, []byte{11}, nil), false},
		{body(0, 1, []byte{27}, nil), false},
		{body(0, 1, []byte{167, 0, 1}, nil), false},
		{body(0, 1, []byte{187, 0, byte(c)}, nil), true},
		{body(0, 1, []byte{187, 0, byte(c + 1)}, nil), false},
		{body(0, 1, []byte{returns}, [][4]int{{0, 1, 0, 0}}), true},
		{body(0, 1, []byte{returns}, [][4]int{{0, 0, 0, 0}}), false},
		{body(0, 1, []byte{returns}, [][4]int{{0, 1, 1, 0}}), false},
		{body(0, 1, []byte{returns}, [][4]int{{0, 1, 0, 1}}), false},
		{append(body(0, 1, []byte{returns}, nil), 0), false},
		{body(0, 1, []byte{returns}, nil)[:12], false},
	} {
		f.methods = nil
		f.method(0, "x", "()V", f.attribute("Code", b.contents))
		f.hold(t, fmt.Sprint("body ", i), b.is)
	}
}

// Of which version a file is, is asked in its bodies.
func TestVersionsOfBodies(t *testing.T) {
	for major := 50; major <= 52; major++ {
		for _, op := range []byte{182, 183, 184} {
			for _, tag := range []int{api.TMethod, api.TIMethod} {
				f := start(class)
				f.major = major
				code := slices.Concat([]byte{op}, u2(f.refers(tag, "b/B", "x", "()V")), []byte{returns})
				f.method(0, "x", "()V", f.attribute("Code", body(1, 1, code, nil)))
				is := tag == api.TMethod || op != 182 && major == 52
				f.hold(t, fmt.Sprint("opcode ", op, " of a ", tag, ", version ", major), is)
			}
		}
	}
}

func TestStackMapTables(t *testing.T) {
	f := start(class)
	c := f.class("a/E")
	for i, b := range []struct {
		contents []byte
		is       bool
	}{
		{nil, false},
		{[]byte{0}, false},
		{[]byte{0, 0}, true},
		{[]byte{0, 0, 0}, false},
		{[]byte{0, 1, 0}, true},
		{[]byte{0, 1, 0, 0}, false},
		{[]byte{0, 2, 0}, false},
		{[]byte{0, 1, 64, 7, 0, byte(c)}, true},
		{[]byte{0, 1, 64, 7, 0, byte(c - 1)}, false},
		{[]byte{0, 1, 64, 2}, false},
		{[]byte{0, 1, 64, 8, 255, 255}, true},
		{[]byte{0, 1, 200, 0, 0}, false},
	} {
		for twice := range 2 {
			f.methods = nil
			a := f.attribute("StackMapTable", b.contents)
			list := slices.Repeat([]attribute{a}, 1+twice)
			f.method(0, "x", "()V", f.attribute("Code", body(0, 1, []byte{returns}, nil, list...)))
			f.hold(t, fmt.Sprint("StackMapTable ", i, ", more ", twice), b.is && twice == 0)
		}
	}
}
