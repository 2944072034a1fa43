// Tests of P5.1 and P5.2 (doc/05-cpool.md), of the rules of the pool in M2
// (doc/00-machine.md), and of what P0.1 to P0.6 say of these calls.
package cpool_test

import (
	"bytes"
	"encoding/binary"
	"fmt"
	"math"
	"slices"
	"strings"
	"testing"

	"obelisk/api"
	"obelisk/cpool"
	"obelisk/cursor"
)

var kept = []int{api.TUtf8, api.TInt, api.TLong, api.TClass, api.TString, api.TField, api.TMethod, api.TIMethod, api.TName}

// references are the tags of entries that stand for a field or a method.
var references = []int{api.TField, api.TMethod, api.TIMethod}

func utf(s string) api.Const         { return api.Const{Tag: api.TUtf8, Text: s} }
func integer(n int32) api.Const      { return api.Const{Tag: api.TInt, Num: int64(n)} }
func long(n int64) api.Const         { return api.Const{Tag: api.TLong, Num: n} }
func class(a int) api.Const          { return api.Const{Tag: api.TClass, A: a} }
func str(a int) api.Const            { return api.Const{Tag: api.TString, A: a} }
func name(a, b int) api.Const        { return api.Const{Tag: api.TName, A: a, B: b} }
func member(tag, a, b int) api.Const { return api.Const{Tag: tag, A: a, B: b} }

// pool is a list as Read tells it: none at 0, and none behind a Long.
func pool(entries ...api.Const) []api.Const {
	p := []api.Const{{}}
	for _, e := range entries {
		p = append(p, e)
		if e.Tag == api.TLong {
			p = append(p, api.Const{})
		}
	}
	return p
}

// raw writes a pool with this count, whatever it holds.
func raw(count int, entries ...api.Const) []byte {
	b := binary.BigEndian.AppendUint16(nil, uint16(count))
	for _, e := range entries {
		b = append(b, written(e)...)
	}
	return b
}

// bytesOf writes the pool that holds these entries.
func bytesOf(entries ...api.Const) []byte { return raw(len(pool(entries...)), entries...) }

func written(e api.Const) []byte {
	b := []byte{byte(e.Tag)}
	two := binary.BigEndian.AppendUint16
	switch e.Tag {
	case 0:
		return nil // behind a Long
	case api.TUtf8:
		return append(two(b, uint16(len(e.Text))), e.Text...)
	case api.TInt:
		return binary.BigEndian.AppendUint32(b, uint32(e.Num))
	case api.TLong:
		return binary.BigEndian.AppendUint64(b, uint64(e.Num))
	case api.TClass, api.TString:
		return two(b, uint16(e.A))
	}
	return two(two(b, uint16(e.A)), uint16(e.B))
}

// brief tells what stands first in a pool.
func brief(p []api.Const) string { return fmt.Sprintf("%d of %.500s", len(p), fmt.Sprint(p)) }

// reads holds that these bytes, with others ahead and behind, are a pool, and
// that it is told as want.
func reads(t *testing.T, b []byte, want []api.Const) {
	t.Helper()
	for _, around := range []int{0, 1, 70} {
		more := bytes.Repeat([]byte{1}, around)
		c := cursor.New(slices.Concat(more, b, more))
		c.Bytes(around)
		p, ok := cpool.Read(c)
		if !ok || !slices.Equal(p, want) {
			t.Fatalf("Read(%.60q): %v %s, not %s", b, ok, brief(p), brief(want))
		}
		if c.At() != around+len(b) || c.Left() != around || !c.OK() {
			t.Fatalf("Read(%.60q) reads to %d of %d, %v", b, c.At()-around, len(b), c.OK())
		}
	}
}

// holds tells that a pool of these entries is read as it is written.
func holds(t *testing.T, entries ...api.Const) {
	t.Helper()
	reads(t, bytesOf(entries...), pool(entries...))
}

// refuses holds that these bytes begin with no pool, and that nothing is told.
func refuses(t *testing.T, b []byte) {
	t.Helper()
	if p, ok := cpool.Read(cursor.New(b)); ok || len(p) != 0 {
		t.Fatalf("Read(%.60q): %v %s", b, ok, brief(p))
	}
}

// breaks holds that a pool of these entries is refused.
func breaks(t *testing.T, entries ...api.Const) {
	t.Helper()
	refuses(t, bytesOf(entries...))
}

// sample holds each kind of entry; each of them names only what stands ahead.
func sample() []api.Const {
	return []api.Const{
		utf("a/B"), class(1), integer(-7), long(1 << 40), utf("f"), utf("I"), name(6, 7), member(api.TField, 2, 8), // 1 to 9, 5 is none
		utf("()V"), name(6, 10), member(api.TMethod, 2, 11), member(api.TIMethod, 2, 11), str(1), utf("<init>"), name(15, 10), // to 16
		member(api.TMethod, 2, 16), utf("[[La;"), class(18), member(api.TMethod, 19, 11), long(-1), // to 21, 22 is none
	}
}

func TestNoPool(t *testing.T) {
	refuses(t, nil)
	refuses(t, []byte{})
	for b := range 256 {
		refuses(t, []byte{byte(b)})
	}
}

func TestCounts(t *testing.T) {
	refuses(t, raw(0))
	refuses(t, raw(0, utf("a")))
	reads(t, raw(1), []api.Const{{}})
	reads(t, raw(2, utf("a")), []api.Const{{}, utf("a")})
	refuses(t, raw(2))
	refuses(t, raw(3, utf("a")))
	many := slices.Repeat([]api.Const{integer(5)}, 1<<16)
	for _, count := range []int{2, 3, 255, 256, 257, 512, 998, 999, 1000} {
		reads(t, raw(count, many[1:count]...), pool(many[1:count]...))
		refuses(t, raw(count, many[2:count]...))
	}
	for _, count := range []int{1001, 1002, 1023, 1024, 1<<15 - 1, 1 << 15, 1<<15 + 1, 1<<16 - 1} {
		refuses(t, raw(count, many[1:count]...))
		refuses(t, raw(count, many...))
		refuses(t, raw(count))
	}
}

func TestAsManyEntriesAsThereMayBe(t *testing.T) {
	list := []api.Const{utf("A"), class(1), utf("()V"), name(1, 3)}
	for len(list) < 999 {
		list = append(list, member(api.TMethod, 2, 4))
	}
	holds(t, list...)
	list[998] = member(api.TMethod, 2, 998)
	breaks(t, list...)
	list[998] = member(api.TMethod, 2, 1000)
	breaks(t, list...)
	longs := slices.Repeat([]api.Const{long(3)}, 499)
	holds(t, append(longs, integer(2))...)
	refuses(t, raw(1000, slices.Repeat([]api.Const{long(3)}, 500)...))
}

// wellMade gives what entries of a kept tag may name, and one such entry.
func wellMade(tag int) []api.Const {
	list := []api.Const{utf("A"), class(1), utf("I"), name(1, 3), utf("()V"), name(1, 5)}
	last := map[int]api.Const{
		api.TUtf8: utf("text"), api.TInt: integer(3), api.TLong: long(3), api.TClass: class(1), api.TString: str(3), api.TName: name(1, 5),
		api.TField: member(api.TField, 2, 4), api.TMethod: member(api.TMethod, 2, 6), api.TIMethod: member(api.TIMethod, 2, 6),
	}
	return append(list, last[tag])
}

// A tag that is not kept is refused, however what stands behind it would be
// read.
func TestEveryTag(t *testing.T) {
	for tag := range 256 {
		if slices.Contains(kept, tag) {
			holds(t, wellMade(tag)...)
			continue
		}
		for _, like := range kept {
			list := wellMade(like)
			b := bytesOf(list...)
			at := len(b) - len(written(list[6]))
			b[at] = byte(tag)
			refuses(t, b)
			refuses(t, append(b, make([]byte, 70000)...))
			refuses(t, append(raw(len(pool(list...))-6), b[at:]...))
		}
	}
}

func TestEachKindCutShort(t *testing.T) {
	lists := [][]api.Const{sample(), {utf("")}, {utf("a"), utf("")}, {utf(strings.Repeat("x", 300))}, {integer(0x01010101)}, {long(0x0101010101010101)}}
	for _, tag := range kept {
		lists = append(lists, wellMade(tag))
	}
	for _, list := range lists {
		holds(t, list...)
		b := bytesOf(list...)
		for n := range len(b) {
			refuses(t, b[:n])
		}
	}
}

func TestSample(t *testing.T) {
	holds(t, sample()...)
	p, ok := cpool.Read(cursor.New(bytesOf(sample()...)))
	if !ok || len(p) != 23 {
		t.Fatal(ok, len(p))
	}
	for i, tag := range []int{0, 1, 7, 3, 5, 0, 1, 1, 12, 9, 1, 12, 10, 11, 8, 1, 12, 10, 1, 7, 10, 5, 0} {
		if p[i].Tag != tag {
			t.Errorf("entry %d: %v", i, p[i])
		}
	}
}

func TestTexts(t *testing.T) {
	for _, s := range []string{
		"", "a", "\x01", "\x7f", "some text", "a.b;[/", "\u00e9\u20ac", "\xc0\x80", "\xc1\x81", "\xdf\xbf", "\xe0\x80\x80", "\xe0\x81\x81", "\xef\xbf\xbf",
		"\xed\xa0\xbd\xed\xb8\x80", "\xed\xa0\x80", strings.Repeat("x", 255), strings.Repeat("x", 256), strings.Repeat("\u20ac", 21845), strings.Repeat("(", 65535),
	} {
		holds(t, utf(s))
		holds(t, utf("a"), utf(s), utf("b"))
	}
	for _, s := range []string{
		"\x00", "a\x00", "\x00a", "\x80", "\xbf", "\xc0", "\xc2", "\xc2a", "\xc2\xc2", "\xc2\x00", "\xe2\x82", "\xe2\x82a", "\xe2", "\xe2a\x82", "\xf0\x9f\x98\x80",
		"\xf8", "\xff", "a\xffb", "\xc2\x80\x80", strings.Repeat("x", 65534) + "\x00", strings.Repeat("\u20ac", 21844) + "\xe2\x82",
	} {
		breaks(t, utf(s))
		breaks(t, utf(s), utf("a"))
		breaks(t, utf("a"), utf(s))
		breaks(t, append(sample(), utf(s))...)
	}
	for b := range 256 {
		if b > 0 && b < 0x80 {
			holds(t, utf(string([]byte{byte(b)})))
		} else {
			breaks(t, utf(string([]byte{byte(b)})))
		}
	}
}

func TestTextBeyondTheBytes(t *testing.T) {
	for _, n := range []int{1, 2, 3, 255, 256, 1000, 65535} {
		entry := append([]byte{1, byte(n >> 8), byte(n)}, bytes.Repeat([]byte{'x'}, n-1)...)
		refuses(t, append(raw(2), entry...))
		refuses(t, append(raw(3), entry...))
		reads(t, append(raw(2), append(entry, 'y')...), []api.Const{{}, utf(strings.Repeat("x", n-1) + "y")})
	}
	refuses(t, append(raw(2), 1, 0xff, 0xff))
}

func TestNumbers(t *testing.T) {
	for _, n := range []int64{0, -1, 1, 127, 128, 255, 256, -128, -129, 1 << 15, 1 << 16, 0x01020304, math.MaxInt32, math.MaxInt32 - 1, math.MinInt32, math.MinInt32 + 1} {
		holds(t, integer(int32(n)))
		holds(t, integer(int32(n)), utf("a"))
		holds(t, long(n))
	}
	for _, n := range []int64{
		1 << 31, 1<<31 - 1, -1 << 31, -1<<31 - 1, 1<<32 - 1, 1 << 32, 1<<32 + 1, -1 << 32, -1<<32 - 1, 1 << 40, 0x0102030405060708, -0x0102030405060708,
		0x00000001_80000000, -0x7fffffff_80000000, math.MaxInt64, math.MaxInt64 - 1, math.MinInt64, math.MinInt64 + 1,
	} {
		holds(t, long(n))
		holds(t, long(n), long(-n), integer(1))
	}
	reads(t, append(raw(2), 3, 0xff, 0xff, 0xff, 0xfe), []api.Const{{}, {Tag: api.TInt, Num: -2}})
	reads(t, append(raw(3), 5, 0x80, 0, 0, 0, 0, 0, 0, 0), []api.Const{{}, {Tag: api.TLong, Num: math.MinInt64}, {}})
}

func TestLongTakesTwoPlaces(t *testing.T) {
	holds(t, long(5))
	holds(t, long(5), long(6), utf("a"), long(7))
	reads(t, raw(6, utf("a"), long(5), utf("b"), str(4)), []api.Const{{}, utf("a"), long(5), {}, utf("b"), str(4)})
	refuses(t, raw(2, long(5)))
	refuses(t, raw(2, long(5), utf("a"), utf("b")))
	refuses(t, raw(3, utf("a"), long(5)))
	refuses(t, raw(3, utf("a"), long(5), utf("b")))
	refuses(t, raw(4, long(5), long(5)))
	refuses(t, raw(1000, slices.Repeat([]api.Const{integer(1)}, 998)...))
	refuses(t, raw(1000, append(slices.Repeat([]api.Const{integer(1)}, 998), long(1))...))
	reads(t, raw(1000, append(slices.Repeat([]api.Const{integer(1)}, 997), long(1))...), pool(append(slices.Repeat([]api.Const{integer(1)}, 997), long(1))...))
}

// A thing is a text and what it may stand for, by letters: C a class's name or
// an array's descriptor, P an unqualified name, M a method's name (not <init>,
// not <clinit>), I <init>, F a field's descriptor, D a method's, V one of a
// method that returns V.
type thing struct{ text, is string }

func (g thing) may(letter string) bool { return strings.Contains(g.is, letter) }

func things() []thing {
	long := strings.Repeat("n", 255)
	return []thing{
		{"A", "CPM"}, {"a/B", "C"}, {"I", "CPMF"}, {"V", "CPM"}, {"F", "CPM"}, {"La;", "F"}, {"L", "CPM"}, {"L;", ""}, {"Lb/c;", "F"}, {"La", "CPM"},
		{"[I", "CF"}, {"[[La/b;", "CF"}, {"[V", ""}, {"[", ""}, {"[A", ""}, {"[La", ""}, {"[F", ""}, {"[La.b;", ""}, {"[II", ""},
		{strings.Repeat("[", 255) + "J", "CF"}, {strings.Repeat("[", 256) + "J", ""}, {"[L" + long + ";", "CF"}, {"[L" + long + "n;", ""},
		{"()V", "CPMDV"}, {"(I)J", "CPMD"}, {"([I)V", "DV"}, {"(La/b;J)V", "DV"}, {"(I)L)V;", "D"}, {"()[I", "D"}, {"()", "CPM"}, {"()VV", "CPM"}, {"([V)V", ""}, {"(La)V", "CPM"},
		{"(F)V", "CPM"}, {"(" + strings.Repeat("J", 100) + ")V", "CPMDV"}, {"(" + strings.Repeat("J", 300) + ")V", "PMDV"}, {"(" + strings.Repeat("[I", 300) + ")I", "D"},
		{"<init>", "CPI"}, {"<clinit>", "CP"}, {"<init", "CP"}, {"init>", "CP"}, {"<init>x", "CP"}, {"a<b", "CP"}, {"a>", "CP"}, {"<", "CP"}, {"<>", "CP"}, {"a/<init>", "C"}, {"init", "CPM"},
		{"", ""}, {".", ""}, {"a.b", ""}, {"a;", ""}, {"/", ""}, {"a/", ""}, {"/a", ""}, {"a//b", ""}, {" ", "CPM"}, {"\u00e9", "CPM"}, {"\xc0\x80", "CPM"}, {"\xed\xa0\x80", "CPM"},
		{long, "CPM"}, {long + "n", "PM"}, {strings.Repeat("n/", 127) + "n", "C"}, {strings.Repeat("n/", 128) + "n", ""},
	}
}

func TestClassOfEachText(t *testing.T) {
	for _, g := range things() {
		for _, list := range [][]api.Const{{utf(g.text), class(1)}, {class(2), utf(g.text)}, {utf("a"), class(1), class(5), str(5), utf(g.text)}} {
			if g.may("C") {
				holds(t, list...)
			} else {
				breaks(t, list...)
			}
		}
	}
}

func TestStringOfEachText(t *testing.T) {
	for _, g := range things() {
		holds(t, utf(g.text), str(1))
		holds(t, str(2), utf(g.text))
	}
	holds(t, utf(strings.Repeat("x", 65535)), str(1), str(1))
}

// Each text as a name with each as a descriptor, and each reference to what
// they make.
func TestNamesAndReferencesOfEachText(t *testing.T) {
	for _, n := range things() {
		for _, d := range things() {
			told := n.may("P") && (d.may("F") || d.may("D"))
			method := told && d.may("D") && n.may("M")
			constructor := told && d.may("V") && n.may("I")
			want := map[int]bool{
				api.TName:    told,
				api.TField:   told && d.may("F") && !n.may("I"),
				api.TMethod:  method || constructor,
				api.TIMethod: method,
			}
			for tag, ok := range want {
				ask := breaks
				if ok {
					ask = holds
				}
				if tag == api.TName {
					ask(t, utf(n.text), utf(d.text), name(1, 2))
					ask(t, name(2, 3), utf(n.text), utf(d.text))
					continue
				}
				ask(t, utf(n.text), utf(d.text), name(1, 2), utf("A"), class(4), member(tag, 5, 3))
				ask(t, member(tag, 2, 6), class(3), utf("A"), utf(n.text), utf(d.text), name(4, 5))
			}
		}
	}
}

func TestOneTextForAll(t *testing.T) {
	holds(t, utf("I"), class(1), str(1), name(1, 1), member(api.TField, 2, 4))
	holds(t, utf("()V"), class(1), str(1), name(1, 1), member(api.TMethod, 2, 4), member(api.TIMethod, 2, 4))
	breaks(t, utf("()V"), class(1), name(1, 1), member(api.TField, 2, 3))
	breaks(t, utf("I"), class(1), name(1, 1), member(api.TMethod, 2, 3))
}

func TestReferencesOfArrays(t *testing.T) {
	for _, array := range []string{"[I", "[[J", "[La;", strings.Repeat("[", 255) + "La/b;"} {
		holds(t, utf(array), class(1), utf("f"), utf("I"), name(3, 4), member(api.TField, 2, 5))
		for _, tag := range []int{api.TMethod, api.TIMethod} {
			holds(t, utf(array), class(1), utf("f"), utf("()V"), name(3, 4), member(tag, 2, 5))
		}
	}
}

// What one entry names: of each number, from 0 to beyond the pool, it is said
// what stands there. The entry stands behind all others, and ahead of them.
func TestNumbersOfOtherEntries(t *testing.T) {
	for _, first := range []int{1, 2} {
		at := func(n int) int { return n - 1 + first }
		rest := []api.Const{
			utf("A"), class(at(1)), integer(1), long(1), utf("I"), name(at(1), at(6)), member(api.TField, at(2), at(7)), // 1 to 8, 5 is none
			utf("()V"), name(at(1), at(9)), member(api.TMethod, at(2), at(10)), member(api.TIMethod, at(2), at(10)), str(at(1)), long(2), // to 14, 15 is none
		}
		self := 1
		if first == 1 {
			self = 16
		}
		ask := func(ok bool, e api.Const) {
			t.Helper()
			list := append(slices.Clone(rest), e)
			if first == 2 {
				list = slices.Insert(slices.Clone(rest), 0, e)
			}
			if ok {
				holds(t, list...)
			} else {
				breaks(t, list...)
			}
		}
		numbers := []int{0, self, 17, 18, 99, 255, 256, 257, 999, 1000, 1001, 1 << 15, 65535}
		for n := 1; n < 16; n++ {
			numbers = append(numbers, at(n))
		}
		texts, types := []int{at(1), at(6), at(9)}, []int{at(6), at(9)}
		for _, n := range numbers {
			text := slices.Contains(texts, n)
			ask(text, class(n))
			ask(text, str(n))
			ask(text, name(n, at(6)))
			ask(slices.Contains(types, n), name(at(1), n))
			for _, tag := range references {
				kind := at(10)
				if tag == api.TField {
					kind = at(7)
				}
				ask(n == at(2), member(tag, n, kind))
				ask(n == kind, member(tag, at(2), n))
				ask(false, member(tag, n, n))
			}
		}
	}
}

// A reference holds no more than what it names.
func TestReferencesOfBrokenEntries(t *testing.T) {
	for _, tag := range references {
		for _, list := range [][]api.Const{
			{utf("a.b"), class(1), utf("f"), utf("I"), name(3, 4), utf("()V"), name(3, 6)},
			{utf("A"), class(9), utf("f"), utf("I"), name(3, 4), utf("()V"), name(3, 6)},
			{utf("A"), class(1), utf("f"), utf("I"), name(3, 0), utf("()V"), name(3, 0)},
			{utf("A"), class(1), utf("f"), utf("I"), name(65535, 4), utf("()V"), name(65535, 6)},
			{utf("A"), class(1), utf("f"), utf("I"), name(2, 4), utf("()V"), name(2, 6)},
			{utf("A"), class(1), utf("f.g"), utf("I"), name(3, 4), utf("()V"), name(3, 6)},
		} {
			breaks(t, append(list, member(tag, 2, 5))...)
			breaks(t, append(list, member(tag, 2, 7))...)
		}
	}
}

// One entry that is wrong, among many that hold, at every place.
func TestOneWrongEntryAnywhere(t *testing.T) {
	list := []api.Const{utf("A"), class(1), utf("I"), name(1, 3), member(api.TField, 2, 4), str(1), integer(1), utf("B")}
	holds(t, list...)
	for i := range list {
		for _, bad := range []api.Const{class(0), str(0), name(0, 0), member(api.TField, 0, 0), member(api.TMethod, 2, 4), utf("\x00"), {Tag: 4}, {Tag: 6}, {Tag: 15}, {Tag: 255}} {
			broken := slices.Clone(list)
			broken[i] = bad
			breaks(t, broken...)
		}
	}
}

func TestCursorThatReadsNoMore(t *testing.T) {
	var none *cursor.Cursor
	if p, ok := cpool.Read(none); ok || len(p) != 0 {
		t.Errorf("of a nil cursor: %v %v", ok, p)
	}
	c := cursor.New(bytesOf(sample()...))
	c.Bytes(-1)
	if p, ok := cpool.Read(c); ok || len(p) != 0 {
		t.Errorf("of a cursor that failed: %v %v", ok, p)
	}
	c = cursor.New(bytesOf(utf("a")))
	cpool.Read(c)
	if p, ok := cpool.Read(c); ok || len(p) != 0 {
		t.Errorf("at the end: %v %v", ok, p)
	}
}

func TestPoolsOneBehindTheOther(t *testing.T) {
	c := cursor.New(slices.Concat(bytesOf(utf("a")), bytesOf(), bytesOf(sample()...), []byte{0xca, 0xfe}))
	for _, want := range [][]api.Const{pool(utf("a")), pool(), pool(sample()...)} {
		if p, ok := cpool.Read(c); !ok || !slices.Equal(p, want) {
			t.Errorf("%v %v, not %v", ok, p, want)
		}
	}
	if c.Left() != 2 || c.U2() != 0xcafe {
		t.Error("bytes behind the pools were read")
	}
}

// Many entries that name one long text: were it looked at anew for each of
// them, this would take minutes.
func TestManyEntriesOfOneLongText(t *testing.T) {
	list := []api.Const{utf("A"), class(1), utf("(" + strings.Repeat("I", 65532) + ")V"), utf(strings.Repeat("n", 65535)), name(4, 3)}
	for len(list) < 998 {
		list = append(list, name(4, 3), member(api.TMethod, 2, 5), str(3))
	}
	for range 5 {
		holds(t, list...)
		breaks(t, append(list, member(api.TField, 2, 5))...)
	}
}

// Each byte of a pool changed to each other one: told is just what a reader of
// the test's own finds in it.
func TestEveryByteChanged(t *testing.T) {
	b := bytesOf(sample()...)
	for at := range b {
		for v := range 256 {
			changed := slices.Concat(b, []byte{1, 0, 0, 1, 0, 0})
			changed[at] = byte(v)
			c := cursor.New(changed)
			p, ok := cpool.Read(c)
			if ok != sound(changed) {
				t.Fatalf("%q: %v %s", changed, ok, brief(p))
			}
			if ok && !bytes.Equal(changed[:c.At()], raw(len(p), p...)) || !ok && len(p) != 0 {
				t.Fatalf("%q: read as %v %s", changed, ok, brief(p))
			}
		}
	}
}

func TestAnswerIsNewMemory(t *testing.T) {
	for _, list := range [][]api.Const{{}, {utf("a")}, {long(1)}, sample()} {
		b, want := bytesOf(list...), pool(list...)
		one, _ := cpool.Read(cursor.New(b))
		two, _ := cpool.Read(cursor.New(b))
		c := cursor.New(b)
		three, _ := cpool.Read(c)
		fill(one, api.Const{Tag: 99, Text: "x", Num: 9, A: 9, B: 9})
		fill(b, 0xee)
		four, _ := cpool.Read(cursor.New(bytesOf(list...)))
		for _, p := range [][]api.Const{two, three, four} {
			if !slices.Equal(p, want) {
				t.Errorf("another answer is %v, not %v", p, want)
			}
		}
	}
}

// fill writes v everywhere, into the spare room, too.
func fill[T any](list []T, v T) {
	list = list[:cap(list)]
	for i := range list {
		list[i] = v
	}
}
