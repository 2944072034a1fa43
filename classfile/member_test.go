package classfile_test

import (
	"fmt"
	"strings"
	"testing"

	"obelisk/api"
)

// eachKind gives the flags of a class and an interface, with those that fields
// and methods of it may have.
func eachKind(yield func(kind int, flags [2]int) bool) {
	if yield(class, [2]int{api.Protected, api.Private}) {
		yield(face, [2]int{api.Public | api.Static | api.Final, api.Public | api.Abstract})
	}
}

func TestMostMembers(t *testing.T) {
	for kind, flags := range eachKind {
		for n, is := range map[int]bool{0: true, 1: true, 2: true, 99: true, 100: true, 101: false, 102: false, 255: false, 256: false, 300: false} {
			f, g := start(kind), start(kind)
			for i := range n {
				f.field(flags[0], fmt.Sprint("f", i), "I")
				g.does(flags[1], fmt.Sprint("m", i), "()V")
			}
			f.hold(t, fmt.Sprint(n, " fields of ", kindOf(kind)), is)
			g.hold(t, fmt.Sprint(n, " methods of ", kindOf(kind)), is)
		}
	}
	f := start(class)
	for i := range 100 {
		f.faces = append(f.faces, f.class(fmt.Sprint("I", i)))
		f.field(0, fmt.Sprint("f", i), "I")
		f.does(api.Abstract, fmt.Sprint("m", i), "()V")
	}
	f.hold(t, "100 interfaces, fields and methods", true)
	c := f.read(t)
	for i := range 100 {
		if c.Interfaces[i] != fmt.Sprint("I", i) || c.Fields[i].Name != fmt.Sprint("f", i) || c.Methods[i].Name != fmt.Sprint("m", i) {
			t.Error("P9.1: not in order: ", i)
		}
	}
}

func TestNamesOfFields(t *testing.T) {
	for kind, flags := range eachKind {
		for name, is := range plainNames {
			f := start(kind)
			f.field(flags[0], name, "I")
			f.hold(t, fmt.Sprintf("a field %.20q of %s", name, kindOf(kind)), is)
		}
	}
}

func TestNamesOfMethods(t *testing.T) {
	for kind, flags := range eachKind {
		for name, is := range plainNames {
			if name == "<init>" {
				continue // it has rules of its own
			}
			f := start(kind)
			f.does(flags[1], name, "()V")
			f.hold(t, fmt.Sprintf("a method %.20q of %s", name, kindOf(kind)), is && !strings.ContainsAny(name, "<>"))
		}
		for _, name := range []string{"init", "<init", "init>", "<Init>", "<init>x", "x<init>", "<clinit", "clinit>", "<clinit>x", "<>", "<x>", "x<y>z", "<init><init>", "<clinit >"} {
			f := start(kind)
			f.does(flags[1], name, "()V")
			f.hold(t, fmt.Sprintf("a method %q of %s", name, kindOf(kind)), name == "init")
			f = start(kind)
			f.field(flags[0], name, "I")
			f.hold(t, fmt.Sprintf("a field %q of %s", name, kindOf(kind)), true)
		}
	}
	f := start(class)
	f.field(0, "<init>", "I")
	f.field(0, "<clinit>", "I")
	f.hold(t, "fields of names that methods may have", true)
}

func TestDescriptorsOfMembers(t *testing.T) {
	for kind, flags := range eachKind {
		for desc, of := range descriptors {
			f, g := start(kind), start(kind)
			f.field(flags[0], "x", desc)
			f.hold(t, fmt.Sprintf("a field of %.20q", desc), of == 1)
			g.does(flags[1], "x", desc)
			g.hold(t, fmt.Sprintf("a method of %.20q", desc), of >= 2)
		}
	}
}

// A name and a descriptor are entries of a Utf8, and of nothing else.
func TestEntriesOfMembers(t *testing.T) {
	f := all()
	p := f.entries(t)
	for _, n := range f.numbers() {
		var e api.Const
		if n < len(p) {
			e = p[n]
		}
		isName := e.Tag == api.TUtf8 && !strings.ContainsAny(e.Text, "[/")
		try := func(what string, is bool, put func(f *file)) {
			f := all()
			put(f)
			f.hold(t, fmt.Sprint(what, n, " of tag ", e.Tag), is)
		}
		x, i, v := f.text("x"), f.text("I"), f.text("()V")
		try("a field's name is entry ", isName, func(f *file) { f.fields = []member{{0, n, i, nil}} })
		try("a method's name is entry ", isName, func(f *file) { f.methods = []member{{api.Abstract, n, v, nil}} })
		of := descriptors[e.Text]
		try("a field's descriptor is entry ", e.Tag == api.TUtf8 && of == 1, func(f *file) { f.fields = []member{{0, x, n, nil}} })
		try("a method's descriptor is entry ", e.Tag == api.TUtf8 && of >= 2, func(f *file) { f.methods = []member{{api.Abstract, x, n, nil}} })
	}
}

// Members of one name and descriptor are wrong wherever they stand; those that
// share only one of them are not.
func TestMembersTwice(t *testing.T) {
	for kind, flags := range eachKind {
		for a := range 4 {
			for b := range 4 {
				for share := range 4 {
					f, g := start(kind), start(kind)
					for i := range 4 {
						name, desc := i, i
						if i == a && share&1 != 0 {
							name = b
						}
						if i == a && share&2 != 0 {
							desc = b
						}
						f.field(flags[0], fmt.Sprint("x", name), arrayOf(desc)+"I")
						g.does(flags[1], fmt.Sprint("x", name), "("+arrayOf(desc)+"I)V")
					}
					is := a == b || share != 3
					f.hold(t, fmt.Sprint("field ", a, " is like ", b, ", share ", share), is)
					g.hold(t, fmt.Sprint("method ", a, " is like ", b, ", share ", share), is)
				}
			}
		}
	}
}

func TestMembersTwiceWithOtherFlags(t *testing.T) {
	f := start(class)
	f.field(api.Public, "x", "I")
	f.field(api.Static, "x", "I", f.value(f.num(1)))
	f.hold(t, "two fields of other flags", false)
	g := start(class)
	g.does(api.Public, "x", "()V")
	g.does(api.Static, "x", "()V")
	g.hold(t, "two methods of other flags", false)
	g.methods[1].flags, g.methods[1].attributes = api.Abstract, nil
	g.hold(t, "two methods, one abstract", false)
	g.methods = nil
	g.does(api.Static, "<clinit>", "()V")
	g.does(api.Static, "<clinit>", "()V")
	g.hold(t, "<clinit> twice", false)
	g.methods = nil
	g.does(0, "<init>", "(I)V")
	g.does(1, "<init>", "(I)V")
	g.hold(t, "<init> twice", false)
	g.methods[1].desc = g.text("(J)V")
	g.hold(t, "two of <init>", true)
	g.methods = g.methods[:1]
	g.does(0, "x", "()I")
	g.does(0, "x", "()V")
	g.hold(t, "two methods that return other types", true)
}

// Two entries may hold one text: a name is there twice all the same. A name
// that is written in another form is another one.
func TestMembersOfOtherEntries(t *testing.T) {
	f := start(class)
	f.field(0, "x", "I")
	f.field(0, "x", "I")
	f.fields[1].name = f.put(1, []byte{api.TUtf8}, u2(1), []byte("x"))
	f.hold(t, "two fields, two entries of the name", false)
	f.fields[1].desc = f.put(1, []byte{api.TUtf8}, u2(1), []byte("I"))
	f.hold(t, "two fields, two entries of name and descriptor", false)
	f.fields[1].name = f.text("\xc1\xb8")
	f.hold(t, "two fields, one in a longer form", true)
	f.does(0, "x", "()V")
	f.does(0, "x", "()V")
	f.methods[1].name, f.methods[1].desc = f.put(1, []byte{api.TUtf8}, u2(1), []byte("x")), f.put(1, []byte{api.TUtf8}, u2(3), []byte("()V"))
	f.hold(t, "two methods, two entries", false)
	f.methods = f.methods[:1]
	f.hold(t, "a field and a method of one name", true)
}

// A name's end and a descriptor's beginning do not flow together.
func TestMembersWhoseTextsRunTogether(t *testing.T) {
	f := start(class)
	f.field(0, "x", "I")
	f.field(0, "xI", "I")
	f.field(0, "x(", "I")
	f.does(0, "x", "(I)V")
	f.does(0, "x(", "(I)V")
	f.does(0, "x(I", "()V")
	f.does(0, "x(I)V", "()V")
	f.hold(t, "names that are alike", true)
}

func TestWordsOfArguments(t *testing.T) {
	for longs := 120; longs <= 130; longs++ {
		for others := range 20 {
			for _, single := range []string{"I", "Z", "La/A;", "[J"} {
				desc := "(" + strings.Repeat("J", longs) + strings.Repeat(single, others) + ")V"
				words := 2*longs + others
				argumentsHold(t, desc, words)
				argumentsHold(t, "("+strings.Repeat(single, others)+strings.Repeat("J", longs)+")J", words)
			}
		}
	}
	for _, n := range []int{0, 1, 2, 253, 254, 255, 256, 257, 300, 1000, 60000} {
		argumentsHold(t, "("+strings.Repeat("B", n)+")V", n)
	}
}

// argumentsHold holds methods whose arguments take so many words beside this.
func argumentsHold(t *testing.T, desc string, words int) {
	t.Helper()
	for flags, this := range map[int]int{api.Static: 0, api.Private: 1, api.Abstract: 1} {
		f := start(class)
		f.does(flags, "x", desc)
		f.hold(t, fmt.Sprintf("a method %x of %d words", flags, words), words+this <= 255)
	}
	for flags, this := range map[int]int{api.Public | api.Static: 0, api.Private: 1, api.Public | api.Abstract: 1} {
		f := start(face)
		f.does(flags, "x", desc)
		f.hold(t, fmt.Sprintf("an interface's method %x of %d words", flags, words), words+this <= 255)
	}
}

func TestWordsOfConstructors(t *testing.T) {
	for _, n := range []int{253, 254, 255, 256} {
		f := start(class)
		f.does(0, "<init>", "("+strings.Repeat("I", n)+")V")
		f.hold(t, fmt.Sprint("<init> of ", n), n <= 254)
	}
}
