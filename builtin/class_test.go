package builtin_test

import (
	"reflect"
	"slices"
	"strings"
	"testing"

	"obelisk/api"
	"obelisk/builtin"
	"obelisk/descr"
	"obelisk/names"
)

func known(name string) bool {
	return slices.ContainsFunc(kinds, func(k kind) bool { return k.name == name })
}

// whole holds that c is the class that is told by k.
func whole(t *testing.T, c *api.Class, k kind) {
	t.Helper()
	if c == nil {
		t.Fatalf("P10.1: Class(%s): nil", k.name)
	}
	if c.Name != k.name || c.Super != k.super || c.Flags != k.flags || c.Major != 52 {
		t.Errorf("P10.1: Class(%s): %q, super %q, flags %#x, major %d", k.name, c.Name, c.Super, c.Flags, c.Major)
	}
	if len(c.Pool) != 0 || len(c.Interfaces) != 0 {
		t.Errorf("P10.1: Class(%s): pool %v, interfaces %v", k.name, c.Pool, c.Interfaces)
	}
	if !slices.Equal(c.Fields, fieldsOf(k.name)) {
		t.Errorf("M11: fields of %s: %v", k.name, c.Fields)
	}
	inOrder(t, c.Methods, k.name)
	for _, m := range c.Methods {
		bodiless(t, m, k.name)
	}
}

// inOrder holds that the methods of a class are M11's. Of PrintStream it names
// `print` and `println` first and then their descriptors: these may follow one
// another by name, or by descriptor.
func inOrder(t *testing.T, got []api.Method, class string) {
	t.Helper()
	want := methodsOf(class)
	if same(got, want) || class == "java/io/PrintStream" && same(got, byDescriptor(want)) {
		return
	}
	t.Errorf("M11: methods of %s: %v", class, got)
}

func same(a, b []api.Method) bool {
	return slices.EqualFunc(a, b, func(m, n api.Method) bool {
		return m.Flags == n.Flags && m.Name == n.Name && m.Desc == n.Desc
	})
}

// byDescriptor puts each println behind the print of its descriptor.
func byDescriptor(list []api.Method) (all []api.Method) {
	half := len(list) / 2
	for i := range half {
		all = append(all, list[i], list[half+i])
	}
	return append(all, list[2*half:]...)
}

func bodiless(t *testing.T, m api.Method, class string) {
	t.Helper()
	if m.Has || m.Code.MaxStack != 0 || m.Code.MaxLocals != 0 || len(m.Code.Bytes) != 0 || len(m.Code.Handlers) != 0 || len(m.Code.Maps) != 0 {
		t.Errorf("P10.1: %s.%s%s has a body: %v", class, m.Name, m.Desc, m)
	}
}

func TestNames(t *testing.T) {
	var want []string
	for _, k := range kinds {
		want = append(want, k.name)
	}
	for range 3 {
		got := builtin.Names()
		if !slices.Equal(got, want) {
			t.Errorf("P10.1: Names: %q", got)
		}
		if !slices.IsSorted(got) || len(slices.Compact(slices.Clone(got))) != len(got) {
			t.Errorf("P10.1: Names do not rise: %q", got)
		}
	}
}

func TestNamesShareNoMemory(t *testing.T) {
	held := builtin.Names()
	spoilt := builtin.Names()
	for _, list := range [][]string{spoilt, spoilt[:cap(spoilt)]} {
		for i := range list {
			list[i] = "x"
		}
	}
	_ = append(builtin.Names(), "y")
	for _, list := range [][]string{held, builtin.Names()} {
		if len(list) != len(kinds) {
			t.Fatalf("P0.3: Names: %q", list)
		}
		for i, k := range kinds {
			if list[i] != k.name || builtin.Class(k.name) == nil {
				t.Errorf("P0.3: Names: %q", list[i])
			}
		}
	}
}

func TestEachClass(t *testing.T) {
	for _, k := range kinds {
		whole(t, builtin.Class(k.name), k)
	}
	for _, k := range slices.Backward(kinds) {
		whole(t, builtin.Class(k.name), k)
		whole(t, builtin.Class(strings.Clone(k.name)), k)
	}
}

func TestClassesThatAreNone(t *testing.T) {
	list := []string{
		"A", "a/B", "Object", "String", "PrintStream", "java/lang/PrintStream", "java/io/System", "java/io/Object",
		"java/lang", "java/lang/", "java/", "java", "/", ".", "java/lang/Integer", "java/lang/Class", "java/lang/Cloneable",
		"java/io/Serializable", "java/io/OutputStream", "java/lang/CharSequence", "java/lang/Comparable", "java/lang/StringBuffer",
		"java/lang/VirtualMachineError", "java/lang/InternalError", "java/lang/ThreadDeath", "java/lang/NumberFormatException",
		"java/lang/IndexOutOfBounds", "java/lang/ArrayIndexOutOfBounds", "java/lang/StringIndexOutOfBounds", "java/lang/IllegalArgumentException",
		"java/lang/ReflectiveOperationException", "java/lang/ClassNotFoundException", "java/lang/InstantiationException", "java/lang/NoSuchMethodException",
		"I", "V", "[I", "[[J", "[", "L;", "[Ljava/lang/Object;", "[Ljava/lang/String;", "()V", "<init>", "out", "message",
		strings.Repeat("java/lang/Object", 1<<12), strings.Repeat("\xff", 1<<16), strings.Repeat("\x00", 16),
	}
	for _, k := range kinds {
		list = append(list, near(k.name)...)
	}
	for _, name := range list {
		if c := builtin.Class(name); c != nil && !known(name) {
			t.Errorf("P10.1: Class(%.60q): %v", name, c)
		}
	}
	if builtin.Class("") != nil {
		t.Error("P10.1: Class of no text")
	}
}

// What Class tells is a class that a file could tell, as far as its names go.
func TestMembersAreWellNamed(t *testing.T) {
	for _, k := range kinds {
		c := builtin.Class(k.name)
		if c == nil {
			t.Fatalf("P10.1: Class(%s): nil", k.name)
		}
		for _, f := range c.Fields {
			if _, ok := descr.Field(f.Desc); !ok || !names.Plain(f.Name) {
				t.Errorf("M11: %s.%s:%s", k.name, f.Name, f.Desc)
			}
		}
		for i, m := range c.Methods {
			if _, _, ok := descr.Method(m.Desc); !ok || !names.Method(m.Name) {
				t.Errorf("M11: %s.%s%s", k.name, m.Name, m.Desc)
			}
			if slices.IndexFunc(c.Methods, func(o api.Method) bool { return o.Name == m.Name && o.Desc == m.Desc }) != i {
				t.Errorf("M11: %s.%s%s stands there twice", k.name, m.Name, m.Desc)
			}
		}
	}
}

// spoil writes into all that a class has, the spare room of its lists, too.
func spoil(c *api.Class) {
	body := api.Code{MaxStack: 1, MaxLocals: 1, Bytes: []byte{177}}
	overwrite(c.Methods, api.Method{Flags: -1, Name: "x", Desc: "y", Has: true, Code: body})
	overwrite(c.Fields, api.Field{Flags: -1, Name: "x", Desc: "y", Value: 1})
	overwrite(c.Interfaces, "x")
	overwrite(c.Pool, api.Const{Tag: api.TUtf8, Text: "x"})
	*c = api.Class{Major: 1, Flags: 1, Name: "x", Super: "x", Interfaces: []string{"x"}}
}

func overwrite[T any](list []T, with T) {
	all := list[:cap(list)]
	for i := range all {
		all[i] = with
	}
}

func TestClassesShareNoMemory(t *testing.T) {
	for _, k := range kinds {
		held, spoilt := builtin.Class(k.name), builtin.Class(k.name)
		if held == nil || spoilt == nil || held == spoilt {
			t.Fatalf("P0.3: Class(%s): %p, %p", k.name, held, spoilt)
		}
		spoil(spoilt)
		whole(t, held, k)
		whole(t, builtin.Class(k.name), k)
	}
}

// Nor do classes of other names.
func TestOtherClassesShareNoMemory(t *testing.T) {
	for i := range kinds {
		var held []*api.Class
		for _, k := range kinds {
			held = append(held, builtin.Class(k.name))
		}
		if held[i] == nil {
			t.Fatalf("P10.1: Class(%s): nil", kinds[i].name)
		}
		spoil(held[i])
		for j, k := range kinds {
			if j != i {
				whole(t, held[j], k)
			}
		}
	}
}

func TestClassIsTheSameEachTime(t *testing.T) {
	for _, k := range kinds {
		first := builtin.Class(k.name)
		for range 3 {
			builtin.Class("a/B")
			builtin.Native(k.name, "<init>", "()V")
			if again := builtin.Class(k.name); !reflect.DeepEqual(again, first) {
				t.Errorf("P0.5: Class(%s): %v, then %v", k.name, first, again)
			}
		}
	}
}
