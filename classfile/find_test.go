package classfile_test

import (
	"fmt"
	"testing"

	"obelisk/api"
	"obelisk/classfile"
)

// finds holds what is found of a name and a descriptor.
func finds(t *testing.T, c *api.Class, name, desc string, method, field int) {
	t.Helper()
	if n := classfile.Find(c, name, desc); n != method {
		t.Errorf("P9.1: Find of %q %q: %d, want %d", name, desc, n, method)
	}
	if n := classfile.FindField(c, name, desc); n != field {
		t.Errorf("P9.1: FindField of %q %q: %d, want %d", name, desc, n, field)
	}
}

func TestFindOfAFile(t *testing.T) {
	c := rich().read(t)
	finds(t, c, "<init>", "(J)V", 0, -1)
	finds(t, c, "m", "()I", 1, -1)
	finds(t, c, "<clinit>", "()V", 2, -1)
	finds(t, c, "m", "(I)I", 3, -1)
	finds(t, c, "i", "I", -1, 0)
	finds(t, c, "j", "J", -1, 1)
	finds(t, c, "s", "Ljava/lang/String;", -1, 2)
	finds(t, c, "i", "[[La/A;", -1, 3)
	for _, other := range [][2]string{{"m", "()V"}, {"m", "(I)V"}, {"<init>", "()V"}, {"x", "()I"}, {"i", "J"}, {"j", "I"}, {"s", "I"}, {"m", ""}, {"", "()I"}, {"", ""},
		{"M", "()I"}, {"m", "()i"}, {"m(", ")I"}, {"m()I", ""}, {"()I", "m"}, {"I", "i"}, {"i ", "I"}, {"a/A", "I"}} {
		finds(t, c, other[0], other[1], -1, -1)
	}
}

func TestFindOfNoClass(t *testing.T) {
	for _, c := range []*api.Class{nil, {}, {Fields: []api.Field{}, Methods: []api.Method{}}} {
		finds(t, c, "x", "I", -1, -1)
		finds(t, c, "", "", -1, -1)
	}
	finds(t, start(0).read(t), "x", "()V", -1, -1)
}

func TestFindFirstAndLast(t *testing.T) {
	for _, n := range []int{1, 2, 3, 100} {
		f := start(class)
		for i := range n {
			f.field(0, fmt.Sprint("f", i), "I")
			f.does(0, fmt.Sprint("m", i), "()V")
		}
		c := f.read(t)
		for i := range n {
			finds(t, c, fmt.Sprint("m", i), "()V", i, -1)
			finds(t, c, fmt.Sprint("f", i), "I", -1, i)
			finds(t, c, fmt.Sprint("m", i), "()I", -1, -1)
			finds(t, c, fmt.Sprint("f", i), "J", -1, -1)
		}
		finds(t, c, fmt.Sprint("m", n), "()V", -1, -1)
		finds(t, c, fmt.Sprint("f", n), "I", -1, -1)
	}
}

// A class need not be of a file: the first of that name and descriptor counts,
// whatever its flags and its body.
func TestFindOfAClassThatIsMade(t *testing.T) {
	c := &api.Class{
		Fields:  []api.Field{{Name: "a", Desc: "b"}, {}, {Name: "a", Desc: "b", Flags: 1}, {Name: "b", Desc: "a", Flags: -1, Value: -1}},
		Methods: []api.Method{{Name: "b", Desc: "a"}, {Name: "a", Desc: "b", Has: true}, {Name: "a", Desc: "b"}, {Name: "", Desc: "x"}},
	}
	finds(t, c, "a", "b", 1, 0)
	finds(t, c, "b", "a", 0, 3)
	finds(t, c, "", "", -1, 1)
	finds(t, c, "", "x", 3, -1)
	c.Methods = c.Methods[:1]
	c.Fields = c.Fields[:1]
	finds(t, c, "a", "b", -1, 0)
	finds(t, c, "b", "a", 0, -1)
	c.Methods, c.Fields = nil, nil
	finds(t, c, "b", "a", -1, -1)
}

func TestFindLeavesTheClass(t *testing.T) {
	c, want := rich().read(t), rich().read(t)
	for range 2 {
		finds(t, c, "m", "(I)I", 3, -1)
		finds(t, c, "i", "[[La/A;", -1, 3)
	}
	if !same(c, want) {
		t.Error("P0.3: what is asked was changed")
	}
}
