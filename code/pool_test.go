package code_test

import (
	"encoding/binary"
	"strings"
	"testing"

	"obelisk/api"
	"obelisk/cpool"
	"obelisk/cursor"
)

// A pool is a constant pool in the making: the tests' bodies name its entries.
type pool struct {
	bytes []byte
	count int
	at    map[string]int
}

func newPool() *pool { return &pool{count: 1, at: map[string]int{}} }

func u2(n int) []byte { return binary.BigEndian.AppendUint16(nil, uint16(n)) }
func u4(n int) []byte { return binary.BigEndian.AppendUint32(nil, uint32(n)) }

func joined(parts ...[]byte) []byte {
	var all []byte
	for _, b := range parts {
		all = append(all, b...)
	}
	return all
}

// add gives the number of an entry, which is made if there is none as yet.
func (p *pool) add(places int, parts ...[]byte) int {
	b := joined(parts...)
	if n, ok := p.at[string(b)]; ok {
		return n
	}
	n := p.count
	p.at[string(b)] = n
	p.bytes = append(p.bytes, b...)
	p.count += places
	return n
}

func (p *pool) text(s string) int { return p.add(1, []byte{api.TUtf8}, u2(len(s)), []byte(s)) }
func (p *pool) num(n int) int     { return p.add(1, []byte{api.TInt}, u4(n)) }
func (p *pool) long(n int) int    { return p.add(2, []byte{api.TLong}, u4(n>>32), u4(n)) }
func (p *pool) str(s string) int  { return p.add(1, []byte{api.TString}, u2(p.text(s))) }
func (p *pool) class(s string) int {
	return p.add(1, []byte{api.TClass}, u2(p.text(s)))
}

func (p *pool) pair(name, desc string) int {
	return p.add(1, []byte{api.TName}, u2(p.text(name)), u2(p.text(desc)))
}

func (p *pool) member(tag int, class, name, desc string) int {
	return p.add(1, []byte{byte(tag)}, u2(p.class(class)), u2(p.pair(name, desc)))
}

func (p *pool) field(name, desc string) int  { return p.member(api.TField, "a/A", name, desc) }
func (p *pool) method(name, desc string) int { return p.member(api.TMethod, "a/A", name, desc) }
func (p *pool) ofFace(name, desc string) int { return p.member(api.TIMethod, "a/I", name, desc) }
func (p *pool) behindLong(n int) int         { return p.long(n) + 1 }
func (p *pool) read(t testing.TB) []api.Const {
	t.Helper()
	list, ok := cpool.Read(cursor.New(joined(u2(p.count), p.bytes)))
	if !ok {
		t.Fatal("the tests' pool is none")
	}
	return list
}

// odd gives what may stand where an entry's number is asked, with each tag of
// the pool: numbers that are no entry, too. Nothing more is put in the pool.
func odd(p *pool) map[int]bool {
	p.text("text")
	p.num(-1)
	p.behindLong(1 << 40)
	p.class("b/B")
	p.str("string")
	p.field("odd", "I")
	p.field("odd", "J")
	p.method("odd", "()V")
	p.method("odd", "(J)J")
	p.method("<init>", "()V")
	p.method("<init>", "(JI)V")
	p.ofFace("odd", "()V")
	p.ofFace("odd", "(JI)V")
	p.pair("odd", "()V")
	for _, dims := range []int{1, 2, 14, 15, 16, 17, 18, 254, 255} {
		p.class(array(dims) + "I")
		p.class(array(dims) + "La/A;")
	}
	m := map[int]bool{255: true, 256: true, 999: true, 1000: true, 32768: true, 65535: true}
	for i := range p.count + 2 {
		m[i] = true
	}
	return m
}

// array is what stands in a descriptor ahead of the elements.
func array(dims int) string { return strings.Repeat("[", dims) }
