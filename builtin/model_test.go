// Tests of P10.1 (doc/10-builtin.md), of M1 and M11 (doc/00-machine.md), and of
// what P0.1 to P0.5 say of its calls.
package builtin_test

import (
	"slices"
	"strings"

	"obelisk/api"
)

// What the flags of a built-in class may be.
const (
	open   = api.Public | api.Super
	sealed = open | api.Final
)

// kind is a class as M1 and M11 tell it, its members aside.
type kind struct {
	name, super string
	flags       int
}

// kinds are all classes that are there, rising by bytes.
var kinds = []kind{
	{"java/io/PrintStream", "java/lang/Object", sealed},
	{"java/lang/AbstractMethodError", "java/lang/IncompatibleClassChangeError", open},
	{"java/lang/ArithmeticException", "java/lang/RuntimeException", open},
	{"java/lang/ArrayIndexOutOfBoundsException", "java/lang/IndexOutOfBoundsException", open},
	{"java/lang/ArrayStoreException", "java/lang/RuntimeException", open},
	{"java/lang/ClassCastException", "java/lang/RuntimeException", open},
	{"java/lang/ClassCircularityError", "java/lang/LinkageError", open},
	{"java/lang/ClassFormatError", "java/lang/LinkageError", open},
	{"java/lang/Error", "java/lang/Throwable", open},
	{"java/lang/Exception", "java/lang/Throwable", open},
	{"java/lang/ExceptionInInitializerError", "java/lang/LinkageError", open},
	{"java/lang/IllegalAccessError", "java/lang/IncompatibleClassChangeError", open},
	{"java/lang/IllegalMonitorStateException", "java/lang/RuntimeException", open},
	{"java/lang/IncompatibleClassChangeError", "java/lang/LinkageError", open},
	{"java/lang/IndexOutOfBoundsException", "java/lang/RuntimeException", open},
	{"java/lang/InstantiationError", "java/lang/IncompatibleClassChangeError", open},
	{"java/lang/LinkageError", "java/lang/Error", open},
	{"java/lang/NegativeArraySizeException", "java/lang/RuntimeException", open},
	{"java/lang/NoClassDefFoundError", "java/lang/LinkageError", open},
	{"java/lang/NoSuchFieldError", "java/lang/IncompatibleClassChangeError", open},
	{"java/lang/NoSuchMethodError", "java/lang/IncompatibleClassChangeError", open},
	{"java/lang/NullPointerException", "java/lang/RuntimeException", open},
	{"java/lang/Object", "", open},
	{"java/lang/OutOfMemoryError", "java/lang/Error", open},
	{"java/lang/RuntimeException", "java/lang/Exception", open},
	{"java/lang/StackOverflowError", "java/lang/Error", open},
	{"java/lang/String", "java/lang/Object", sealed},
	{"java/lang/StringBuilder", "java/lang/Object", sealed},
	{"java/lang/StringIndexOutOfBoundsException", "java/lang/IndexOutOfBoundsException", open},
	{"java/lang/System", "java/lang/Object", sealed},
	{"java/lang/Throwable", "java/lang/Object", open},
	{"java/lang/UnsupportedClassVersionError", "java/lang/LinkageError", open},
	{"java/lang/VerifyError", "java/lang/LinkageError", open},
}

// errorNames are the classes of the errors 1 to 23, without `java/lang/`.
var errorNames = []string{
	"ClassFormatError", "UnsupportedClassVersionError", "NoClassDefFoundError", "ClassCircularityError",
	"IncompatibleClassChangeError", "LinkageError", "VerifyError", "NoSuchFieldError", "NoSuchMethodError",
	"IllegalAccessError", "AbstractMethodError", "InstantiationError", "ExceptionInInitializerError",
	"StackOverflowError", "OutOfMemoryError", "ArithmeticException", "NullPointerException",
	"ArrayIndexOutOfBoundsException", "NegativeArraySizeException", "ClassCastException", "ArrayStoreException",
	"IllegalMonitorStateException", "StringIndexOutOfBoundsException",
}

// thrown tells whether a class is Throwable, or one below it.
func thrown(name string) bool {
	for name != "java/lang/Throwable" {
		i := slices.IndexFunc(kinds, func(k kind) bool { return k.name == name })
		if i < 0 {
			return false
		}
		name = kinds[i].super
	}
	return true
}

// fieldsOf are the fields of a class, as P10.1 tells them.
func fieldsOf(name string) []api.Field {
	switch name {
	case "java/lang/System":
		return []api.Field{{Flags: api.Public | api.Static | api.Final, Name: "out", Desc: "Ljava/io/PrintStream;"}}
	case "java/lang/Throwable":
		return []api.Field{{Flags: api.Private, Name: "message", Desc: "Ljava/lang/String;"}}
	}
	return nil
}

// texts are a class's methods, in the order of M11, each as name and
// descriptor, `static` ahead of those that are.
func texts(name string) []string {
	switch {
	case name == "java/lang/Object":
		return []string{"<init> ()V", "equals (Ljava/lang/Object;)Z", "toString ()Ljava/lang/String;"}
	case name == "java/lang/String":
		return []string{
			"length ()I", "charAt (I)C", "concat (Ljava/lang/String;)Ljava/lang/String;", "equals (Ljava/lang/Object;)Z",
			"intern ()Ljava/lang/String;", "toString ()Ljava/lang/String;",
			"static valueOf (I)Ljava/lang/String;", "static valueOf (J)Ljava/lang/String;",
			"static valueOf (C)Ljava/lang/String;", "static valueOf (Z)Ljava/lang/String;",
		}
	case name == "java/lang/StringBuilder":
		return []string{
			"<init> ()V", "append (Ljava/lang/String;)Ljava/lang/StringBuilder;",
			"append (I)Ljava/lang/StringBuilder;", "append (J)Ljava/lang/StringBuilder;",
			"append (C)Ljava/lang/StringBuilder;", "append (Z)Ljava/lang/StringBuilder;",
			"length ()I", "toString ()Ljava/lang/String;",
		}
	case name == "java/lang/System":
		return []string{"static arraycopy (Ljava/lang/Object;ILjava/lang/Object;II)V"}
	case name == "java/io/PrintStream":
		return []string{
			"print (Ljava/lang/String;)V", "print (I)V", "print (J)V", "print (C)V", "print (Z)V", "print (Ljava/lang/Object;)V",
			"println (Ljava/lang/String;)V", "println (I)V", "println (J)V", "println (C)V", "println (Z)V", "println (Ljava/lang/Object;)V",
			"println ()V",
		}
	case name == "java/lang/Throwable":
		return []string{"<init> ()V", "<init> (Ljava/lang/String;)V", "getMessage ()Ljava/lang/String;"}
	case thrown(name):
		return []string{"<init> ()V", "<init> (Ljava/lang/String;)V"}
	}
	return nil
}

// methodsOf are a class's methods, in the order of M11.
func methodsOf(name string) (all []api.Method) {
	for _, text := range texts(name) {
		flags := api.Public
		if rest, ok := strings.CutPrefix(text, "static "); ok {
			flags, text = api.Public|api.Static, rest
		}
		method, desc, _ := strings.Cut(text, " ")
		all = append(all, api.Method{Flags: flags, Name: method, Desc: desc})
	}
	return all
}

// keyOf tells of the method of this name and descriptor that stands in a class
// which one of M11 it is; empty: none stands there.
func keyOf(class, name, desc string) string {
	if !slices.ContainsFunc(methodsOf(class), func(m api.Method) bool { return m.Name == name && m.Desc == desc }) {
		return ""
	}
	if name == "<init>" && thrown(class) {
		class = "java/lang/Throwable"
	}
	return class + "." + name + desc
}

// numbers are what an argument that is a number may be.
func numbers() []int {
	all := []int{-1 << 63, 1<<63 - 1, -1 << 32, 1 << 32, 1<<32 + 1, 1<<32 + 23, -1<<32 + 1, 1<<31 - 1, -1 << 31, 1 << 16, 1<<16 + 1, 1<<16 + 23, -1<<16 + 1}
	for n := -600; n <= 600; n++ {
		all = append(all, n)
	}
	return all
}

// near are texts that are almost this one.
func near(s string) []string {
	all := []string{
		"", s + s, s + "\x00", "\x00" + s, " " + s, s + " ", s + "\n", "/" + s, s + "/", s + ";", "L" + s + ";", "[" + s, "[L" + s + ";", "." + s,
		strings.ReplaceAll(s, "/", "."), strings.Replace(s, "/", ".", 1), strings.ReplaceAll(s, "/", ""), strings.ReplaceAll(s, "/", "//"),
		strings.ReplaceAll(s, "/", "\\"), strings.ReplaceAll(s, "/", "\xc0\xaf"), strings.ToLower(s), strings.ToUpper(s), s[strings.LastIndexByte(s, '/')+1:],
		strings.ReplaceAll(s, "java/lang", "java/io"), strings.ReplaceAll(s, "java/io", "java/lang"), strings.ReplaceAll(s, "java/", "javax/"),
	}
	for i := range len(s) {
		all = append(all, s[:i], s[i:], s[:i]+s[i+1:], s[:i]+"\xff"+s[i+1:], s[:i]+string([]byte{s[i] ^ 1})+s[i+1:], s[:i]+s[i:i+1]+s[i:])
	}
	for b := range 256 {
		all = append(all, s+string([]byte{byte(b)}), string([]byte{byte(b)})+s)
	}
	return slices.DeleteFunc(all, func(other string) bool { return other == s })
}
