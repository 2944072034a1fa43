package classfile_test

import (
	"fmt"
	"slices"
	"strings"
	"testing"

	"obelisk/api"
	"obelisk/cpool"
)

// each gives what may stand where a class is asked: the number of each entry of
// a pool that has each tag, and of no entry; name is the class's, empty if the
// entry is no class, or an array.
func each(t *testing.T, yield func(n int, name string)) {
	t.Helper()
	f := all()
	p := f.entries(t)
	for _, n := range f.numbers() {
		name, _ := cpool.Class(p, n)
		if strings.HasPrefix(name, "[") {
			name = ""
		}
		yield(n, name)
	}
}

func TestThisClass(t *testing.T) {
	each(t, func(n int, name string) {
		for _, kind := range []int{class, face} {
			f := all()
			f.flags, f.this = kind, n
			f.hold(t, fmt.Sprint("this_class is entry ", n, " of ", kindOf(kind)), name != "")
			if name == "" {
				continue
			}
			if c := f.read(t); c.Name != name || c.Super != object {
				t.Errorf("P9.1: Name %q, want %q", c.Name, name)
			}
		}
	})
}

func TestSuperClass(t *testing.T) {
	each(t, func(n int, name string) {
		f := all()
		f.super = n
		f.hold(t, fmt.Sprint("super_class is entry ", n), name != "")
		if name == "" {
			return
		}
		if c := f.read(t); c.Super != name || c.Name != "a/A" {
			t.Errorf("P9.1: Super %q, want %q", c.Super, name)
		}
	})
}

func TestSuperOfInterfaces(t *testing.T) {
	each(t, func(n int, name string) {
		f := all()
		f.flags, f.super = face, n
		f.hold(t, fmt.Sprint("an interface's super_class is entry ", n), name == object)
	})
	for _, name := range []string{"java/lang/Objec", "java/lang/Objects", "object", "Object", "java/lang/object", "java\xc0\xaflang/Object", "java/lang/String", "a/A"} {
		for _, kind := range []int{class, face} {
			f := start(kind)
			f.super = f.class(name)
			f.hold(t, fmt.Sprintf("the super of %s is %q", kindOf(kind), name), kind == class)
		}
	}
}

// Nothing is asked of what the classes are: Object may be of any name's super,
// a class its own, and no class is without one.
func TestClassesThatAreOdd(t *testing.T) {
	for _, kind := range []int{class, face} {
		f := start(kind)
		f.this = f.super
		f.hold(t, "java/lang/Object whose super is itself", true)
		f.super = 0
		f.hold(t, "java/lang/Object without a super", false)
		f.this = f.class("java/lang/String")
		f.hold(t, "java/lang/String without a super", false)
	}
	f := start(class)
	f.super = f.this
	f.faces = []int{f.this}
	f.hold(t, "a class that is its own super and interface", true)
	f = start(class)
	f.faces = []int{f.super}
	f.hold(t, "a class whose super is its interface", true)
	f.super = f.class("java/lang/String")
	f.hold(t, "a class whose super is final", true)
}

func TestEntryOfInterface(t *testing.T) {
	each(t, func(n int, name string) {
		for _, kind := range []int{class, face} {
			what := fmt.Sprint(" interface of ", kindOf(kind), " is entry ", n)
			f := all()
			f.flags, f.faces = kind, []int{n}
			f.hold(t, "the one"+what, name != "")
			f.faces = []int{f.class("a/I"), n, f.class("a/J")}
			f.hold(t, "the second"+what, name != "" && name != "a/I" && name != "a/J")
		}
	})
}

func TestInterfacesTwice(t *testing.T) {
	for _, kind := range []int{class, face} {
		for a := range 5 {
			for b := range 5 {
				f := start(kind)
				for i := range 5 {
					f.faces = append(f.faces, f.class("I"+strings.Repeat("x", i)))
				}
				f.faces[a] = f.faces[b]
				f.hold(t, fmt.Sprint("interface ", a, " is the one of ", b), a == b)
			}
		}
	}
}

// Two entries may stand for one name: it is there twice.
func TestInterfacesOfTwoEntries(t *testing.T) {
	f := start(class)
	one := f.class("a/I")
	two := f.put(1, []byte{api.TClass}, u2(f.text("a/I")))
	again := f.put(1, []byte{api.TUtf8}, u2(3), []byte("a/I"))
	three := f.put(1, []byte{api.TClass}, u2(again))
	for _, list := range [][]int{{one, two}, {two, three}, {one, three}, {one, f.super, three}} {
		f.faces = list
		f.hold(t, "two entries of one name", false)
	}
	f.faces = []int{three}
	f.hold(t, "one of them", true)
	f.faces = []int{one, f.class("a/i"), f.class("a/I/" + "I"), f.class("I"), f.class("a")}
	f.hold(t, "names that are alike", true)
}

func TestMostInterfaces(t *testing.T) {
	for _, kind := range []int{class, face} {
		for n, is := range map[int]bool{0: true, 1: true, 2: true, 99: true, 100: true, 101: false, 102: false, 200: false} {
			f := start(kind)
			var names []string
			for i := range n {
				names = append(names, fmt.Sprint("a/I", i))
				f.faces = append(f.faces, f.class(names[i]))
			}
			f.hold(t, fmt.Sprint(n, " interfaces"), is)
			if !is {
				continue
			}
			if c := f.read(t); !slices.Equal(c.Interfaces, names) {
				t.Errorf("P9.1: Interfaces %q", c.Interfaces)
			}
		}
	}
}

// A count that is greater than what there is.
func TestCountsThatAreNotSo(t *testing.T) {
	b := start(0).bytes()
	for at := len(b) - 8; at < len(b); at += 2 { // of interfaces, fields, methods, attributes
		for _, n := range []int{1, 2, 99, 100, 101, 255, 256, 257, 32768, 65535} {
			changed := slices.Clone(b)
			copy(changed[at:], u2(n))
			want(t, fmt.Sprint("a count of ", n, " at ", at), changed, api.EFormat)
			want(t, fmt.Sprint("a count of ", n, " at ", at, " and noughts behind"), slices.Concat(changed, make([]byte, 2000)), api.EFormat)
		}
	}
}
