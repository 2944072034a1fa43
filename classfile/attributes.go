package classfile

import (
	"obelisk/api"
	"obelisk/code"
	"obelisk/cpool"
	"obelisk/cursor"
)

// attribute is one as it stands.
type attribute struct {
	name     string
	contents []byte
}

// attributes reads those of the class, of a field or of a method.
func (r reader) attributes() ([]attribute, bool) {
	var list []attribute
	for range r.bytes.U2() {
		name, isText := cpool.Text(r.class.Pool, r.bytes.U2())
		contents := r.bytes.Bytes(int(r.bytes.U4()))
		if !isText || !r.bytes.OK() {
			return nil, false
		}
		list = append(list, attribute{name, contents})
	}
	return list, true
}

// known reads the attributes of a member, and gives the contents of those of
// one name: others are passed over.
func (r reader) known(name string) ([][]byte, bool) {
	list, ok := r.attributes()
	var found [][]byte
	for _, a := range list {
		if a.name == name {
			found = append(found, a.contents)
		}
	}
	return found, ok
}

// value reads a field's attributes, and gives the entry of its value; 0 if it
// has none.
func (r reader) value(flags int, desc string) (int, bool) {
	found, ok := r.known("ConstantValue")
	if !ok || len(found) == 0 {
		return 0, ok
	}
	c := cursor.New(found[0])
	i := c.U2()
	if len(found) > 1 || !c.OK() || c.Left() > 0 || flags&api.Static == 0 {
		return 0, false
	}
	return i, i < len(r.class.Pool) && mayBegin(desc, r.class.Pool[i].Tag)
}

// mayBegin tells whether a field of this descriptor may begin as a constant
// with this tag.
func mayBegin(desc string, tag int) bool {
	switch desc {
	case "B", "C", "I", "S", "Z":
		return tag == api.TInt
	case "J":
		return tag == api.TLong
	case "Ljava/lang/String;":
		return tag == api.TString
	}
	return false
}

// body reads a method's attributes, and gives its body and whether there is
// one.
func (r reader) body(flags, words int) (api.Code, bool, bool) {
	found, ok := r.known("Code")
	if flags&api.Abstract != 0 {
		return api.Code{}, false, ok && len(found) == 0
	}
	if !ok || len(found) != 1 {
		return api.Code{}, false, false
	}
	body, ok := code.Read(found[0], r.class.Pool, r.class.Major, words)
	return body, ok, ok
}
