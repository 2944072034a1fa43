package builtin_test

import (
	"slices"
	"strings"
	"testing"

	"obelisk/api"
	"obelisk/builtin"
)

func TestNameOfEachError(t *testing.T) {
	for i, name := range errorNames {
		e, want := api.Error(i+1), "java/lang/"+name
		if got := builtin.Name(e); got != want {
			t.Errorf("M1: Name(%d): %q, not %q", e, got, want)
		}
		if !known(want) || builtin.Class(builtin.Name(e)) == nil || !thrown(want) {
			t.Errorf("M1: %s is no class of an error", want)
		}
	}
}

// The numbers as the errors are named by.
func TestNameOfErrorsByTheirNames(t *testing.T) {
	for e, want := range map[api.Error]string{
		api.EFormat: "ClassFormatError", api.EVersion: "UnsupportedClassVersionError", api.ENoClass: "NoClassDefFoundError",
		api.ECircular: "ClassCircularityError", api.EChange: "IncompatibleClassChangeError", api.ELinkage: "LinkageError",
		api.EVerify: "VerifyError", api.ENoField: "NoSuchFieldError", api.ENoMethod: "NoSuchMethodError",
		api.EAccess: "IllegalAccessError", api.EAbstract: "AbstractMethodError", api.EInstant: "InstantiationError",
		api.EInit: "ExceptionInInitializerError", api.EStack: "StackOverflowError", api.EMemory: "OutOfMemoryError",
		api.EArithmetic: "ArithmeticException", api.ENull: "NullPointerException", api.EIndex: "ArrayIndexOutOfBoundsException",
		api.ENegative: "NegativeArraySizeException", api.ECast: "ClassCastException", api.EStore: "ArrayStoreException",
		api.EMonitor: "IllegalMonitorStateException", api.EStringIndex: "StringIndexOutOfBoundsException",
	} {
		if got := builtin.Name(e); got != "java/lang/"+want {
			t.Errorf("M1: Name(%d): %q, not %q", e, got, want)
		}
	}
}

func TestNameOfNoError(t *testing.T) {
	if got := builtin.Name(api.OK); got != "" {
		t.Errorf("P10.1: Name(OK): %q", got)
	}
	for _, n := range numbers() {
		if got := builtin.Name(api.Error(n)); got != "" && (n < 1 || n > len(errorNames)) {
			t.Errorf("P10.1: Name(%d): %q", n, got)
		}
	}
}

// From each error the supers go up to Object, as M1 tells them.
func TestSupersOfErrors(t *testing.T) {
	for i, name := range errorNames {
		var above []string
		for c := builtin.Class("java/lang/" + name); c != nil && c.Super != "" && len(above) < 10; c = builtin.Class(c.Super) {
			above = append(above, strings.TrimPrefix(c.Super, "java/lang/"))
		}
		if want := append(supersOf(api.Error(i+1)), "Throwable", "Object"); !slices.Equal(above, want) {
			t.Errorf("M1: above %s: %q, not %q", name, above, want)
		}
	}
}

// supersOf are the classes between an error's and Throwable, by M1's numbers.
func supersOf(e api.Error) []string {
	switch {
	case e == 18 || e == 23:
		return []string{"IndexOutOfBoundsException", "RuntimeException", "Exception"}
	case e >= 16:
		return []string{"RuntimeException", "Exception"}
	case e >= 8 && e <= 12:
		return []string{"IncompatibleClassChangeError", "LinkageError", "Error"}
	case e == 6 || e == 14 || e == 15:
		return []string{"Error"}
	}
	return []string{"LinkageError", "Error"}
}
