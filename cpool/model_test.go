package cpool_test

import (
	"encoding/binary"

	"obelisk/descr"
	"obelisk/mutf"
	"obelisk/names"
)

// An item is where an entry's contents stand; tag 0: there is no entry.
type item struct {
	tag      byte
	contents []byte
}

// number gives the nth number of another entry that the item holds.
func (e item) number(n int) int { return int(binary.BigEndian.Uint16(e.contents[2*n:])) }

// sound tells, by a reader that knows nothing of the package, whether a pool
// stands at the beginning of b.
func sound(b []byte) bool {
	items, ok := split(b)
	if !ok {
		return false
	}
	get := func(n int, tag byte) (item, bool) {
		if n >= len(items) || items[n].tag != tag {
			return item{}, false
		}
		return items[n], true
	}
	text := func(n int) (string, bool) {
		e, ok := get(n, 1)
		return string(e.contents), ok
	}
	pair := func(e item) (string, string, bool) {
		n, okN := text(e.number(0))
		d, okD := text(e.number(1))
		return n, d, okN && okD
	}
	for _, e := range items {
		switch e.tag {
		case 1:
			if _, ok := mutf.Decode(string(e.contents)); !ok {
				return false
			}
		case 7:
			if n, ok := text(e.number(0)); !ok || !isClassOrArray(n) {
				return false
			}
		case 8:
			if _, ok := text(e.number(0)); !ok {
				return false
			}
		case 12:
			if n, d, ok := pair(e); !ok || !names.Plain(n) || !isField(d) && descr.Args(d) < 0 {
				return false
			}
		case 9, 10, 11:
			_, okC := get(e.number(0), 7)
			both, okB := get(e.number(1), 12)
			if !okC || !okB {
				return false
			}
			if n, d, ok := pair(both); !ok || !mayRefer(e.tag, n, d) {
				return false
			}
		}
	}
	return true
}

func isField(d string) bool {
	_, ok := descr.Field(d)
	return ok
}

func isClassOrArray(n string) bool { return names.Class(n) || n != "" && n[0] == '[' && isField(n) }

func mayRefer(tag byte, n, d string) bool {
	_, result, ok := descr.Method(d)
	switch {
	case tag == 9:
		return !ok && n != "<init>"
	case n == "<init>":
		return ok && tag == 10 && result.Kind == 'V'
	}
	return ok && n != "<clinit>" && names.Method(n)
}

// split finds the entries of the pool at the beginning of b.
func split(b []byte) ([]item, bool) {
	sizes := map[byte]int{3: 4, 5: 8, 7: 2, 8: 2, 9: 4, 10: 4, 11: 4, 12: 4}
	if len(b) < 2 {
		return nil, false
	}
	count := int(b[0])<<8 + int(b[1])
	items := make([]item, 1, 1001)
	for b = b[2:]; len(items) < count; {
		if len(b) < 3 || count > 1000 {
			return nil, false
		}
		tag, size := b[0], sizes[b[0]]
		b = b[1:]
		if tag == 1 {
			size = int(b[0])<<8 + int(b[1])
			b = b[2:]
		}
		if size == 0 && tag != 1 || len(b) < size {
			return nil, false
		}
		items = append(items, item{tag, b[:size]})
		if tag == 5 {
			items = append(items, item{})
		}
		b = b[size:]
	}
	return items, len(items) == count
}
