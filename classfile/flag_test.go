package classfile_test

import (
	"fmt"
	"testing"

	"obelisk/api"
)

const (
	class = api.Abstract
	face  = api.Interface | api.Abstract
)

// kindOf tells what a file is of.
func kindOf(flags int) string {
	if flags == face {
		return "an interface"
	}
	return "a class"
}

// eachFlags gives the numbers that flags may be: all of those of the flags that
// there are, and of the lowest bits, and each two bits.
func eachFlags(yield func(int) bool) {
	for n := range 1 << 11 {
		if !yield(n) {
			return
		}
	}
	for a := range 16 {
		for b := range 16 {
			if n := 1<<a | 1<<b; n >= 1<<11 && (!yield(n) || !yield(n|api.Public) || !yield(n|api.Interface|api.Abstract)) {
				return
			}
		}
	}
	yield(0xffff)
}

// eachFile gives the versions, and the flags of a class and of an interface.
func eachFile(yield func(major, kind int) bool) {
	for major := 50; major <= 52; major++ {
		if !yield(major, class) || !yield(major, face) {
			return
		}
	}
}

func TestFlagsOfClasses(t *testing.T) {
	for major := 50; major <= 52; major++ {
		for flags := range 65536 {
			f := start(flags)
			f.major = major
			abstract, isFace, final := flags&0x400 != 0, flags&0x200 != 0, flags&0x10 != 0
			is := flags&^0x631 == 0 && !(isFace && (final || !abstract)) && !(final && abstract)
			f.hold(t, fmt.Sprintf("a class with the flags %x, version %d", flags, major), is)
		}
	}
}

func TestFlagsOfFields(t *testing.T) {
	for major, kind := range eachFile {
		for flags := range eachFlags {
			f := start(kind)
			f.major = major
			f.field(flags, "x", "I")
			is := fieldSets[flags]
			if kind == face {
				is = flags == 0x19
			}
			f.hold(t, fmt.Sprintf("a field with the flags %x of %s, version %d", flags, kindOf(kind), major), is)
		}
	}
}

func TestFlagsOfMethods(t *testing.T) {
	for major, kind := range eachFile {
		for flags := range eachFlags {
			sets := methodSets
			switch {
			case kind == face && major == 52:
				sets = faceSets
			case kind == face:
				sets = map[int]bool{0x401: true}
			}
			what := fmt.Sprintf("a method with the flags %x of %s, version %d", flags, kindOf(kind), major)
			f := start(kind)
			f.major = major
			f.does(flags, "x", "()V")
			f.hold(t, what, sets[flags])
			f = start(kind)
			f.major = major
			f.does(flags, "<init", "()V")
			f.hold(t, what+", named <init", false)
		}
	}
}

func TestFlagsOfConstructors(t *testing.T) {
	for major, kind := range eachFile {
		for flags := range eachFlags {
			is := kind == class && (flags == 0 || flags == 1 || flags == 2 || flags == 4)
			for _, desc := range []string{"()V", "(IJLa/A;)V"} {
				f := start(kind)
				f.major = major
				f.does(flags, "<init>", desc)
				f.hold(t, fmt.Sprintf("<init> %s with the flags %x of %s, version %d", desc, flags, kindOf(kind), major), is)
			}
		}
	}
}

func TestFlagsOfInitialisers(t *testing.T) {
	for major, kind := range eachFile {
		for flags := range eachFlags {
			f := start(kind)
			f.major = major
			f.does(flags, "<clinit>", "()V")
			f.hold(t, fmt.Sprintf("<clinit> with the flags %x of %s, version %d", flags, kindOf(kind), major), flags == api.Static)
		}
	}
}

func TestDescriptorsOfSpecialMethods(t *testing.T) {
	for major, kind := range eachFile {
		for desc, of := range descriptors {
			for flags := range 8 {
				f := start(kind)
				f.major = major
				f.does(flags, "<init>", desc)
				f.hold(t, fmt.Sprintf("<init> %.20q of %s", desc, kindOf(kind)), of == 3 && kind == class && fieldSets[flags])
			}
			f := start(kind)
			f.major = major
			f.does(api.Static, "<clinit>", desc)
			f.hold(t, fmt.Sprintf("<clinit> %.20q of %s", desc, kindOf(kind)), desc == "()V")
		}
		for _, desc := range []string{"()I", "(I)V", "(I)I", "()La/A;", "()[I", "(J)V", "()LV;"} {
			f := start(kind)
			f.major = major
			f.does(api.Static, "<clinit>", desc)
			f.hold(t, fmt.Sprintf("<clinit> %s of %s", desc, kindOf(kind)), false)
		}
	}
}

// What an interface may not have does not hang on what else it has.
func TestSpecialMethodsBesideOthers(t *testing.T) {
	for _, is := range []bool{true, false} {
		f := start(face)
		f.does(api.Public|api.Abstract, "x", "()V")
		f.does(api.Static, "<clinit>", "()V")
		if !is {
			f.does(api.Public, "<init>", "()V")
		}
		f.does(api.Private, "y", "()V")
		f.hold(t, "an interface", is)
		f = start(class)
		f.does(api.Public, "<init>", "()V")
		f.does(api.Static, "<clinit>", "()V")
		f.does(api.Protected, "<init>", "(I)V")
		f.does(0, "<init>", "(II)V")
		if !is {
			f.does(api.Public|api.Private, "<init>", "(J)V")
		}
		f.hold(t, "a class", is)
	}
}

func TestFlagsAreTold(t *testing.T) {
	for flags := range classSets {
		f := start(flags)
		if c := f.read(t); c.Flags != flags {
			t.Errorf("P9.1: Flags %x, want %x", c.Flags, flags)
		}
	}
	for flags := range methodSets {
		f := start(class)
		f.does(flags, "x", "()V")
		if fieldSets[flags] {
			f.field(flags, "x", "I")
		}
		c := f.read(t)
		if c.Methods[0].Flags != flags || c.Methods[0].Has != (flags&api.Abstract == 0) {
			t.Errorf("P9.1: a method's Flags %x, want %x", c.Methods[0].Flags, flags)
		}
		if fieldSets[flags] && c.Fields[0].Flags != flags {
			t.Errorf("P9.1: a field's Flags %x, want %x", c.Fields[0].Flags, flags)
		}
	}
}
