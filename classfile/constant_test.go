package classfile_test

import (
	"fmt"
	"slices"
	"strings"
	"testing"

	"obelisk/api"
	"obelisk/cpool"
	"obelisk/cursor"
)

// with makes a file of a class with one more entry, the last one.
func with(parts ...[]byte) *file {
	f := start(0)
	f.put(1, parts...)
	return f
}

func TestPoolCounts(t *testing.T) {
	for n, is := range map[int]bool{5: true, 6: true, 255: true, 256: true, 999: true, 1000: true, 1001: false, 1002: false, 2000: false} {
		f := start(0)
		for f.count < n {
			f.put(1, []byte{api.TUtf8, 0, 0})
		}
		f.hold(t, fmt.Sprint("a pool that counts ", n), is)
	}
	for _, n := range []int{0, 1, 2, 3, 4, 6, 7, 255, 256, 1000, 1001, 32768, 65535} {
		f := start(0)
		f.count = n
		f.hold(t, fmt.Sprint("a pool of 5 that counts ", n), false)
	}
	want(t, "an empty pool", slices.Concat(start(0).bytes()[:8], []byte{0, 1}, make([]byte, 14)), api.EFormat)
	want(t, "no pool", slices.Concat(start(0).bytes()[:8], []byte{0, 0}, make([]byte, 14)), api.EFormat)
}

func TestTags(t *testing.T) {
	sizes := map[int]int{api.TInt: 4, api.TClass: 2, api.TString: 2, api.TField: 4, api.TMethod: 4, api.TIMethod: 4, api.TName: 4}
	for tag := range 256 {
		for size := range 9 {
			b := make([]byte, size)
			for _, fill := range []byte{0, 1, 255} {
				for i := range b {
					b[i] = fill
				}
				f := with([]byte{byte(tag)}, b)
				is := sizes[tag] == size && tag == api.TInt || tag == api.TUtf8 && size == 2 && fill == 0
				if tag == api.TLong && size == 8 {
					f.count++
					is = true
				}
				f.hold(t, fmt.Sprint("tag ", tag, " and ", size, " of ", fill), is)
			}
		}
	}
}

func TestTexts(t *testing.T) {
	for s, is := range map[string]bool{
		"": true, "a": true, "\x01": true, "\x7f": true, "\xc0\x80": true, "\xc3\xa9": true, "\xe2\x82\xac": true, "\xed\xa0\x80": true,
		"\xc1\x81": true, "\xe0\x80\x80": true, strings.Repeat("x", 60000): true,
		"\x00": false, "a\x00": false, "\x80": false, "\xc3": false, "\xc3a": false, "\xe2\x82": false, "\xe2\x82a": false, "\xf0\x9f\x98\x80": false, "\xff": false, "a\xfe": false,
	} {
		with([]byte{api.TUtf8}, u2(len(s)), []byte(s)).hold(t, fmt.Sprintf("the text %.20q", s), is)
	}
	for _, n := range []int{0, 1, 2, 4, 5, 100, 65535} {
		with([]byte{api.TUtf8}, u2(n), []byte("abc")).hold(t, fmt.Sprint("a text of 3 bytes as ", n), false)
	}
}

func TestLongs(t *testing.T) {
	f := start(0)
	f.put(2, []byte{api.TLong}, make([]byte, 8))
	f.hold(t, "a Long and the entry behind it", true)
	f = start(0)
	f.put(1, []byte{api.TLong}, make([]byte, 8))
	f.hold(t, "a Long as the last entry", false)
	f = start(0)
	f.put(2, []byte{api.TLong}, make([]byte, 8))
	f.put(1, []byte{api.TInt}, make([]byte, 4))
	f.hold(t, "an Integer behind a Long", true)
}

// all makes a file whose pool has each tag.
func all() *file {
	f := start(class)
	f.num(3)
	f.long(4)
	f.class("[I")
	f.class("a/I")
	f.class("a/J")
	f.str("x")
	f.refers(api.TField, "b/B", "x", "I")
	f.refers(api.TMethod, "b/B", "x", "()V")
	f.refers(api.TIMethod, "b/B", "x", "()V")
	return f
}

// numbers gives those of all entries of a file's pool, and of no entry.
func (f *file) numbers() []int {
	list := []int{f.count, f.count + 1, f.count + 2, 255, 256, 999, 1000, 32768, 65535}
	for n := range f.count {
		list = append(list, n)
	}
	return list
}

// entries gives the pool as package cpool tells it.
func (f *file) entries(t testing.TB) []api.Const {
	t.Helper()
	p, ok := cpool.Read(cursor.New(slices.Concat(u2(f.count), f.pool.bytes)))
	if !ok {
		t.Fatal("the tests' pool is none")
	}
	return p
}

// Each number of another entry, in turn, is one of each tag, or of no entry.
func TestNumbersOfEntries(t *testing.T) {
	f := all()
	p := f.entries(t)
	for _, n := range f.numbers() {
		e := api.Const{}
		if n < len(p) {
			e = p[n]
		}
		named(t, n, e)
	}
}

// named holds files of which one entry names entry n.
func named(t *testing.T, n int, e api.Const) {
	t.Helper()
	try := func(what string, is bool, parts ...[]byte) {
		t.Helper()
		f := all()
		f.put(1, parts...)
		f.hold(t, fmt.Sprint(what, " ", n, " of tag ", e.Tag), is)
	}
	isText := e.Tag == api.TUtf8
	isClass := isText && e.Text != ""
	isPlain := isText && !strings.ContainsAny(e.Text, "[/")
	f := all()
	x, i := f.text("x"), f.text("I")
	try("a Class that names", isClass, []byte{api.TClass}, u2(n))
	try("a String that names", isText, []byte{api.TString}, u2(n))
	try("a NameAndType whose name is", isPlain, []byte{api.TName}, u2(n), u2(i))
	try("a NameAndType whose descriptor is", isText && descriptors[e.Text] > 0, []byte{api.TName}, u2(x), u2(n))
	for _, tag := range []int{api.TField, api.TMethod, api.TIMethod} {
		pair := f.pair("x", "()V")
		if tag == api.TField {
			pair = f.pair("x", "I")
		}
		try(fmt.Sprint("a reference ", tag, " whose class is"), e.Tag == api.TClass, []byte{byte(tag)}, u2(n), u2(pair))
		try(fmt.Sprint("a reference ", tag, " to"), n == pair, []byte{byte(tag)}, u2(f.class("b/B")), u2(n))
	}
}

func TestNamesOfClasses(t *testing.T) {
	for name, is := range map[string]bool{
		"A": true, "a/b/C": true, "<": true, "<init>": true, "(": true, "a)": true, "\xc0\x80": true, strings.Repeat("x", 255): true, strings.Repeat("x/", 127) + "x": true,
		"[I": true, "[J": true, "[[Z": true, "[La/A;": true, arrayOf(255) + "I": true, arrayOf(255) + "La/A;": true,
		"": false, "/": false, "a/": false, "/a": false, "a//b": false, "a.b": false, "a;": false, "a[": false, "La/A;": false, strings.Repeat("x", 256): false,
		"[": false, "[a": false, "[A;": false, "[F": false, "[D": false, "[V": false, "[La/A": false, "[La/A;;": false, "[II": false, arrayOf(256) + "I": false, "[()V": false,
	} {
		f := start(0)
		f.class(name)
		f.hold(t, fmt.Sprintf("a Class %.20q", name), is)
	}
}

// plainNames tells of names whether they are unqualified ones.
var plainNames = map[string]bool{
	"x": true, "<": true, "a<b": true, ">": true, "(": true, ")": true, "<init>": true, "\xc0\x80": true, strings.Repeat("x", 256): true, "\n": true, "I I": true,
	"": false, "a.b": false, ".": false, "a;": false, ";": false, "a[": false, "[": false, "a/b": false, "/": false,
}

// descriptors tells of descriptors whether they are a field's (1), a method's
// (2), one that returns V (3), or none (0).
var descriptors = map[string]int{
	"B": 1, "C": 1, "I": 1, "J": 1, "S": 1, "Z": 1, "La/A;": 1, "L<;": 1, "[I": 1, "[[La/A;": 1, arrayOf(255) + "J": 1,
	"()I": 2, "()V": 3, "(IJ[ZLa/A;)V": 3, "()[[I": 2, "(I)La/A;": 2, "([[I)J": 2, "(LV;)V": 3, "(L);)LV;": 2,
	"": 0, "F": 0, "D": 0, "V": 0, "X": 0, "II": 0, "La/A": 0, "a/A": 0, "L;": 0, "La.A;": 0, "[": 0, "[V": 0, "[F": 0, arrayOf(256) + "J": 0,
	"(": 0, ")": 0, "()": 0, ")V": 0, "(V)V": 0, "(F)V": 0, "()F": 0, "()VV": 0, "()[V": 0, "(I": 0, "I)V": 0, "(;)V": 0, "(La/A)V": 0,
}

func TestNamesAndTypes(t *testing.T) {
	for name, is := range plainNames {
		for _, desc := range []string{"I", "()V"} {
			f := start(0)
			f.pair(name, desc)
			f.hold(t, fmt.Sprintf("a NameAndType %.20q %q", name, desc), is)
		}
	}
	for desc, kind := range descriptors {
		f := start(0)
		f.pair("x", desc)
		f.hold(t, fmt.Sprintf("a NameAndType of %.20q", desc), kind > 0)
	}
}

func TestReferences(t *testing.T) {
	for desc, kind := range descriptors {
		for _, name := range []string{"x", "<init>", "<clinit>", "a<b", "a>"} {
			for _, tag := range []int{api.TField, api.TMethod, api.TIMethod} {
				f := start(0)
				f.refers(tag, "b/B", name, desc)
				is := false
				switch {
				case tag == api.TField:
					is = kind == 1 && name != "<init>"
				case name == "<init>":
					is = kind == 3 && tag == api.TMethod
				case name == "x":
					is = kind >= 2
				}
				f.hold(t, fmt.Sprintf("a reference %d to %s %.20q", tag, name, desc), is)
			}
		}
	}
}
