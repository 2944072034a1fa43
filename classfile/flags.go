package classfile

import (
	"math/bits"

	"obelisk/api"
	"obelisk/descr"
)

// The flags that there are.
const (
	access      = api.Public | api.Private | api.Protected
	classFlags  = api.Public | api.Final | api.Super | api.Interface | api.Abstract
	fieldFlags  = access | api.Static | api.Final
	methodFlags = fieldFlags | api.Abstract
)

// facesDo is the version from which on methods of interfaces may have bodies.
const facesDo = 52

func isInterface(flags int) bool { return flags&api.Interface != 0 }

// within tells whether there is no flag beside those of a mask.
func within(flags, mask int) bool { return flags&^mask == 0 }

// accessHolds tells whether it is said at most once who may ask for a member.
func accessHolds(flags int) bool { return bits.OnesCount(uint(flags&access)) <= 1 }

// classMayBe tells whether a class may have these flags. (One that is both
// abstract and final is none: no interface is final, either.)
func classMayBe(flags int) bool {
	abstract := flags&api.Abstract != 0
	if abstract && flags&api.Final != 0 || isInterface(flags) && !abstract {
		return false
	}
	return within(flags, classFlags)
}

// fieldMayBe tells whether a field of a class or an interface may have these
// flags.
func fieldMayBe(flags int, face bool) bool {
	if face {
		return flags == api.Public|api.Static|api.Final
	}
	return within(flags, fieldFlags) && accessHolds(flags)
}

// methodMayBe tells whether a method that is not <clinit> may have these flags.
func methodMayBe(flags int) bool {
	if flags&api.Abstract != 0 && flags&(api.Private|api.Static|api.Final) != 0 {
		return false
	}
	return within(flags, methodFlags) && accessHolds(flags)
}

// faceMethodMayBe tells whether one of an interface may, too.
func faceMethodMayBe(flags, major int) bool {
	if major < facesDo {
		return flags == api.Public|api.Abstract
	}
	return flags&(api.Protected|api.Final) == 0 && flags&(api.Public|api.Private) != 0
}

// allows tells whether the class may have a method with these flags, by this
// name and descriptor.
func (r reader) allows(flags int, name, desc string) bool {
	face := isInterface(r.class.Flags)
	switch {
	case name == "<clinit>":
		return flags == api.Static && desc == "()V"
	case face && !faceMethodMayBe(flags, r.class.Major):
		return false
	case name == "<init>" && (face || !within(flags, access) || !returnsNothing(desc)):
		return false
	}
	return methodMayBe(flags)
}

func returnsNothing(desc string) bool {
	_, result, ok := descr.Method(desc)
	return ok && result.Kind == 'V'
}
