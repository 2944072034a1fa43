package builtin

import (
	"obelisk/api"
)

// Name tells the name of an error's class; empty: it is no error.
func Name(e api.Error) string {
	all := [...]string{
		api.EFormat:      lang + "ClassFormatError",
		api.EVersion:     lang + "UnsupportedClassVersionError",
		api.ENoClass:     lang + "NoClassDefFoundError",
		api.ECircular:    lang + "ClassCircularityError",
		api.EChange:      lang + "IncompatibleClassChangeError",
		api.ELinkage:     lang + "LinkageError",
		api.EVerify:      lang + "VerifyError",
		api.ENoField:     lang + "NoSuchFieldError",
		api.ENoMethod:    lang + "NoSuchMethodError",
		api.EAccess:      lang + "IllegalAccessError",
		api.EAbstract:    lang + "AbstractMethodError",
		api.EInstant:     lang + "InstantiationError",
		api.EInit:        lang + "ExceptionInInitializerError",
		api.EStack:       lang + "StackOverflowError",
		api.EMemory:      lang + "OutOfMemoryError",
		api.EArithmetic:  lang + "ArithmeticException",
		api.ENull:        lang + "NullPointerException",
		api.EIndex:       lang + "ArrayIndexOutOfBoundsException",
		api.ENegative:    lang + "NegativeArraySizeException",
		api.ECast:        lang + "ClassCastException",
		api.EStore:       lang + "ArrayStoreException",
		api.EMonitor:     lang + "IllegalMonitorStateException",
		api.EStringIndex: lang + "StringIndexOutOfBoundsException",
	}
	if e < 0 || int(e) >= len(all) {
		return ""
	}
	return all[e]
}

// superOf tells the super of an error's class.
func superOf(e api.Error) string {
	switch e {
	case api.ELinkage, api.EStack, api.EMemory:
		return failure
	case api.EFormat, api.EVersion, api.ENoClass, api.ECircular, api.EChange, api.EVerify, api.EInit:
		return Name(api.ELinkage)
	case api.ENoField, api.ENoMethod, api.EAccess, api.EAbstract, api.EInstant:
		return Name(api.EChange)
	case api.EIndex, api.EStringIndex:
		return index
	}
	return runtime
}
