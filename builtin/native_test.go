package builtin_test

import (
	"slices"
	"strings"
	"testing"

	"obelisk/api"
	"obelisk/builtin"
)

// mostNatives is how many methods M11 tells.
const mostNatives = 3 + 10 + 8 + 3 + 1 + 13

// method is one that stands in a class.
type method struct {
	class, name, desc string
}

// every gives each method of each class.
func every() (all []method) {
	for _, k := range kinds {
		for _, m := range methodsOf(k.name) {
			all = append(all, method{k.name, m.Name, m.Desc})
		}
	}
	return all
}

// none holds that no such method stands in that class.
func none(t *testing.T, class, name, desc string) {
	t.Helper()
	if got := builtin.Native(class, name, desc); got != 0 {
		t.Errorf("P10.1: Native(%.40q, %.40q, %.40q): %d", class, name, desc, got)
	}
}

func TestNativeOfEachMethod(t *testing.T) {
	numberOf, keyAt := map[string]int{}, map[int]string{}
	for _, m := range every() {
		key, n := keyOf(m.class, m.name, m.desc), builtin.Native(m.class, m.name, m.desc)
		if n < 1 {
			t.Errorf("P10.1: Native(%v): %d", m, n)
		}
		if met, ok := numberOf[key]; ok && met != n {
			t.Errorf("P10.1: %s has the numbers %d and %d", key, met, n)
		}
		if met, ok := keyAt[n]; ok && met != key {
			t.Errorf("P10.1: %d is the number of %s and of %s", n, met, key)
		}
		numberOf[key], keyAt[n] = n, key
	}
	if len(numberOf) != mostNatives || len(keyAt) != mostNatives {
		t.Errorf("M11: %d methods, %d numbers", len(numberOf), len(keyAt))
	}
}

// What Class tells and what Native numbers is the same.
func TestNativeOfWhatClassTells(t *testing.T) {
	met := map[int]int{}
	for _, name := range builtin.Names() {
		c := builtin.Class(name)
		if c == nil {
			t.Fatalf("P10.1: Class(%s): nil", name)
		}
		for _, m := range c.Methods {
			n := builtin.Native(name, m.Name, m.Desc)
			if n < 1 {
				t.Errorf("P10.1: Native(%s, %s, %s): %d", name, m.Name, m.Desc, n)
			}
			met[n]++
		}
	}
	if len(met) != mostNatives {
		t.Errorf("P10.1: %d numbers", len(met))
	}
}

func TestConstructorsOfErrorsAreThrowables(t *testing.T) {
	for _, desc := range []string{"()V", "(Ljava/lang/String;)V"} {
		want := builtin.Native("java/lang/Throwable", "<init>", desc)
		for _, k := range kinds {
			if got := builtin.Native(k.name, "<init>", desc); thrown(k.name) != (got == want) || want < 1 {
				t.Errorf("P10.1: Native(%s, <init>, %s): %d; Throwable's: %d", k.name, desc, got, want)
			}
		}
	}
	if builtin.Native("java/lang/Error", "<init>", "()V") == builtin.Native("java/lang/Error", "<init>", "(Ljava/lang/String;)V") {
		t.Error("P10.1: the two constructors have one number")
	}
}

// A method of a super class does not stand in the class itself.
func TestMethodsOfSupersAlone(t *testing.T) {
	for _, k := range kinds {
		for super := k.super; super != ""; super = superOf(super) {
			for _, m := range methodsOf(super) {
				if keyOf(k.name, m.Name, m.Desc) == "" {
					none(t, k.name, m.Name, m.Desc)
				}
			}
		}
	}
	none(t, "java/lang/String", "<init>", "()V")
	none(t, "java/lang/System", "<init>", "()V")
	none(t, "java/io/PrintStream", "<init>", "()V")
	none(t, "java/lang/StringBuilder", "equals", "(Ljava/lang/Object;)Z")
	none(t, "java/lang/Throwable", "toString", "()Ljava/lang/String;")
	none(t, "java/lang/Error", "getMessage", "()Ljava/lang/String;")
}

func superOf(name string) string {
	for _, k := range kinds {
		if k.name == name {
			return k.super
		}
	}
	return ""
}

// Each class with each name and each descriptor that is there, and with some
// that are not.
func TestEveryNameAndDescriptor(t *testing.T) {
	classes := []string{"", "A", "a/B", "Object", "java.lang.Object", "[I", "[Ljava/lang/Object;", "Ljava/lang/Object;", "java/lang/", "java/lang/Integer"}
	names := []string{"", "x", "init", "<clinit>", "hashCode", "getClass", "out", "message", "add", "printf", "PRINT", "to_string"}
	descs := []string{"", "()", "V", "()I;", "(F)V", "(D)V", "([C)V", "(S)V", "(B)V", "(I)I", "(II)V", "(Ljava/lang/Throwable;)V", "(Ljava/lang/StringBuilder;)Ljava/lang/StringBuilder;"}
	for _, m := range every() {
		classes, names, descs = append(classes, m.class), append(names, m.name), append(descs, m.desc)
	}
	for _, list := range []*[]string{&classes, &names, &descs} {
		slices.Sort(*list)
		*list = slices.Compact(*list)
	}
	for _, class := range classes {
		for _, name := range names {
			for _, desc := range descs {
				if got, want := builtin.Native(class, name, desc), keyOf(class, name, desc); (got > 0) != (want != "") || got < 0 {
					t.Errorf("P10.1: Native(%q, %q, %q): %d", class, name, desc, got)
				}
			}
		}
	}
}

func TestTextsThatAreNear(t *testing.T) {
	for _, m := range every() {
		for _, class := range near(m.class) {
			if keyOf(class, m.name, m.desc) == "" {
				none(t, class, m.name, m.desc)
			}
		}
		for _, name := range near(m.name) {
			if keyOf(m.class, name, m.desc) == "" {
				none(t, m.class, name, m.desc)
			}
		}
		for _, desc := range near(m.desc) {
			if keyOf(m.class, m.name, desc) == "" {
				none(t, m.class, m.name, desc)
			}
		}
	}
}

// The three texts are asked one by one: what stands in one is not in another.
func TestTextsAreNotTakenTogether(t *testing.T) {
	for _, m := range every() {
		none(t, m.class, m.name+m.desc, "")
		none(t, m.class, "", m.name+m.desc)
		none(t, m.class+m.name, "", m.desc)
		none(t, "", m.class+m.name, m.desc)
		none(t, "", "", m.class+m.name+m.desc)
		none(t, m.class+"."+m.name+m.desc, "", "")
		none(t, m.class, m.name+"(", m.desc[1:])
		none(t, m.class+m.name[:1], m.name[1:], m.desc)
		none(t, m.class[:len(m.class)-1], m.class[len(m.class)-1:]+m.name, m.desc)
		none(t, m.name, m.class, m.desc)
		none(t, m.class, m.desc, m.name)
		none(t, m.desc, m.name, m.class)
	}
}

func TestEmptyAndLongTexts(t *testing.T) {
	none(t, "", "", "")
	long := strings.Repeat("java/lang/Object", 1<<12)
	for _, m := range every() {
		none(t, "", m.name, m.desc)
		none(t, m.class, "", m.desc)
		none(t, m.class, m.name, "")
		none(t, "", "", m.desc)
		none(t, "", m.name, "")
		none(t, m.class, "", "")
		none(t, long, m.name, m.desc)
		none(t, m.class, long, m.desc)
		none(t, m.class, m.name, long)
	}
}

func TestFieldsAreNoMethods(t *testing.T) {
	for _, k := range kinds {
		for _, f := range fieldsOf(k.name) {
			none(t, k.name, f.Name, f.Desc)
			none(t, k.name, f.Name, "()"+f.Desc)
		}
	}
}

// Whoever writes into a class that was answered changes no number.
func TestNumbersStay(t *testing.T) {
	var first []int
	for _, m := range every() {
		first = append(first, builtin.Native(m.class, m.name, m.desc))
	}
	for _, k := range kinds {
		if c := builtin.Class(k.name); c != nil {
			overwrite(c.Methods, api.Method{Name: "x", Desc: "()V"})
			overwrite(c.Fields, api.Field{Name: "x"})
		}
		overwrite(builtin.Names(), "x")
		none(t, k.name, "x", "()V")
	}
	for i, m := range slices.Backward(every()) {
		if got := builtin.Native(m.class, m.name, m.desc); got != first[i] {
			t.Errorf("P0.5: Native(%v): %d, then %d", m, first[i], got)
		}
	}
}
