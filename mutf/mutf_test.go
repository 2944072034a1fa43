// Tests of P2.1 (doc/02-mutf.md) and of what P0.1 to P0.6 say of its calls.
package mutf_test

import (
	"fmt"
	"slices"
	"strconv"
	"strings"
	"testing"
	"unicode/utf16"
	"unicode/utf8"

	"obelisk/mutf"
)

const lastChar = 0xffff

// decodes holds what Decode gives of s against these chars.
func decodes(t *testing.T, s string, want ...uint16) {
	t.Helper()
	if u, ok := mutf.Decode(s); !ok || !slices.Equal(u, want) {
		t.Errorf("Decode(% x): %x, %v; not %x", s, u, ok, want)
	}
}

// refuses asks that Decode gives none and false of s.
func refuses(t *testing.T, s string) {
	t.Helper()
	if u, ok := mutf.Decode(s); ok || len(u) != 0 {
		t.Errorf("Decode(% x): %x, %v; not none and false", s, u, ok)
	}
}

// fromBits makes the bytes that are written as noughts and ones.
func fromBits(bytes ...string) string {
	var out []byte
	for _, b := range bytes {
		v, err := strconv.ParseUint(b, 2, 8)
		if err != nil {
			panic(err)
		}
		out = append(out, byte(v))
	}
	return string(out)
}

// forms gives each form of each char, as the chapter draws them, the shorter
// ones of a char first.
func forms() [][]string {
	all := make([][]string, lastChar+1)
	for c := range all {
		if c >= 0x01 && c <= 0x7f {
			all[c] = append(all[c], string([]byte{byte(c)}))
		}
		if b := fmt.Sprintf("%011b", c); len(b) == 11 {
			all[c] = append(all[c], fromBits("110"+b[:5], "10"+b[5:]))
		}
		b := fmt.Sprintf("%016b", c)
		all[c] = append(all[c], fromBits("1110"+b[:4], "10"+b[4:10], "10"+b[10:]))
	}
	return all
}

// chars gives the char that each form stands for.
func chars() map[string]uint16 {
	of := map[string]uint16{}
	for c, fs := range forms() {
		for _, f := range fs {
			of[f] = uint16(c)
		}
	}
	return of
}

// byForms decodes s by trying which form it begins with.
func byForms(of map[string]uint16, s string) ([]uint16, bool) {
	var u []uint16
next:
	for len(s) > 0 {
		for n := 1; n <= len(s) && n <= 3; n++ {
			if c, ok := of[s[:n]]; ok {
				u, s = append(u, c), s[n:]
				continue next
			}
		}
		return nil, false
	}
	return u, true
}

func TestDecodeLowestAndHighestOfEachForm(t *testing.T) {
	decodes(t, "\x01", 0x01)
	decodes(t, "\x7f", 0x7f)
	decodes(t, "\xc0\x80", 0)
	decodes(t, "\xc2\x80", 0x80)
	decodes(t, "\xdf\xbf", 0x7ff)
	decodes(t, "\xe0\x80\x80", 0)
	decodes(t, "\xe0\xa0\x80", 0x800)
	decodes(t, "\xef\xbf\xbf", 0xffff)
	decodes(t, "\xed\xa0\x80\xed\xbf\xbf", 0xd800, 0xdfff)
	decodes(t, "a\xc3\xa9\xe2\x82\xac\xc0\x80z", 'a', 0xe9, 0x20ac, 0, 'z')
}

func TestDecodeFormsLongerThanNeedBe(t *testing.T) {
	decodes(t, "\xc0\x81", 0x01)
	decodes(t, "\xc1\x81", 0x41)
	decodes(t, "\xc1\xbf", 0x7f)
	decodes(t, "\xe0\x80\x80", 0)
	decodes(t, "\xe0\x80\x81", 0x01)
	decodes(t, "\xe0\x81\xbf", 0x7f)
	decodes(t, "\xe0\x82\x80", 0x80)
	decodes(t, "\xe0\x9f\xbf", 0x7ff)
	decodes(t, "\xe0\x80\x80\xc1\xbf\xe0\x9f\xbfA", 0, 0x7f, 0x7ff, 'A')
}

func TestDecodeEveryForm(t *testing.T) {
	var all strings.Builder
	var want []uint16
	for c, fs := range forms() {
		for _, f := range fs {
			decodes(t, f, uint16(c))
			all.WriteString(f)
			want = append(want, uint16(c))
		}
	}
	if u, ok := mutf.Decode(all.String()); !ok || !slices.Equal(u, want) {
		t.Error("Decode of all forms one behind the other")
	}
}

// Where a form begins each byte stands, alone and with up to four bytes behind
// it that would do as the second and third one.
func TestDecodeEveryFirstByte(t *testing.T) {
	for b := range 256 {
		need := 0
		switch {
		case b >= 0x01 && b <= 0x7f:
			need = 1
		case b >= 0xc0 && b <= 0xdf:
			need = 2
		case b >= 0xe0 && b <= 0xef:
			need = 3
		}
		for n := range 5 {
			s := string([]byte{byte(b)}) + strings.Repeat("\x80", n)
			for _, ahead := range []string{"", "a", "\xc0\x80", "\xe0\xa0\x80"} {
				if u, ok := mutf.Decode(ahead + s); ok != (n+1 == need) || !ok && len(u) != 0 {
					t.Errorf("Decode(% x): %x, %v", ahead+s, u, ok)
				}
			}
		}
	}
}

func TestDecodeBytesThatBeginNoForm(t *testing.T) {
	for _, s := range []string{"\x00", "\x80", "\xbf", "\xf0", "\xf8", "\xfe", "\xff",
		"\xf0\x9f\x98\x80", "\xf4\x8f\xbf\xbf", "\xf0\x80\x80", "\xf0\x80", "\xfc\x80\x80\x80\x80\x80"} {
		refuses(t, s)
		refuses(t, s+"a")
		refuses(t, "a"+s)
	}
	refuses(t, "a\x00")
	refuses(t, "\x00a")
	refuses(t, "a\x00b")
}

func TestDecodeBytesThatContinueNoForm(t *testing.T) {
	for b := range 256 {
		if b >= 0x80 && b <= 0xbf {
			continue
		}
		bad := string([]byte{byte(b)})
		for _, s := range []string{"\xc2" + bad, "\xdf" + bad + "a", "\xc0" + bad + "\x80",
			"\xe1" + bad + "\x80", "\xe1\x80" + bad, "\xef\xbf" + bad + "\x80", "\xe0" + bad + bad} {
			refuses(t, s)
			refuses(t, "ok"+s)
		}
	}
}

func TestDecodeFormsThatAreCutOff(t *testing.T) {
	for _, s := range []string{"\xc0", "\xc2", "\xdf", "\xe0", "\xe0\x80", "\xe0\xa0", "\xef", "\xef\xbf", "\xed\xa0"} {
		refuses(t, s)
		for _, good := range []string{"a", "\xc0\x80", "\xc2\x80", "\xe0\xa0\x80", "\xef\xbf\xbf"} {
			refuses(t, good+s)
			refuses(t, s+good)
		}
	}
}

func TestDecodeBadBytesBehindGoodOnes(t *testing.T) {
	good := strings.Repeat("a\xc3\xa9\xe2\x82\xac", 50)
	decodes(t, good, slices.Repeat([]uint16{'a', 0xe9, 0x20ac}, 50)...)
	for _, bad := range []string{"\x00", "\x80", "\xf0\x9f\x98\x80", "\xff", "\xc2", "\xe0\xa0", "\xc2a"} {
		refuses(t, good+bad)
		refuses(t, good+bad+good)
	}
}

func TestDecodeOfNothing(t *testing.T) {
	if u, ok := mutf.Decode(""); !ok || len(u) != 0 {
		t.Errorf("%x, %v", u, ok)
	}
}

func TestDecodeEveryTwoBytes(t *testing.T) {
	of := chars()
	for v := range 1 << 16 {
		agree(t, of, string([]byte{byte(v >> 8), byte(v)}))
	}
}

func TestDecodeTextsOfEdges(t *testing.T) {
	edges := []byte{0x00, 0x01, 0x7f, 0x80, 0xbf, 0xc0, 0xc1, 0xdf, 0xe0, 0xef, 0xf0, 0xff}
	of := chars()
	var play func(s []byte, many int)
	play = func(s []byte, many int) {
		agree(t, of, string(s))
		if many == 0 {
			return
		}
		for _, b := range edges {
			play(append(s, b), many-1)
		}
	}
	play(nil, 5)
}

func agree(t *testing.T, of map[string]uint16, s string) {
	t.Helper()
	if u, ok := byForms(of, s); ok {
		decodes(t, s, u...)
	} else {
		refuses(t, s)
	}
}

func TestEncodeEdges(t *testing.T) {
	for _, c := range []struct {
		u    []uint16
		want string
	}{
		{nil, ""},
		{[]uint16{}, ""},
		{[]uint16{0}, "\xc0\x80"},
		{[]uint16{1}, "\x01"},
		{[]uint16{0x7f}, "\x7f"},
		{[]uint16{0x80}, "\xc2\x80"},
		{[]uint16{0x7ff}, "\xdf\xbf"},
		{[]uint16{0x800}, "\xe0\xa0\x80"},
		{[]uint16{0xffff}, "\xef\xbf\xbf"},
		{[]uint16{0xd800}, "\xed\xa0\x80"},
		{[]uint16{0xdbff}, "\xed\xaf\xbf"},
		{[]uint16{0xdc00}, "\xed\xb0\x80"},
		{[]uint16{0xdfff}, "\xed\xbf\xbf"},
		{[]uint16{0xd800, 0xdc00}, "\xed\xa0\x80\xed\xb0\x80"},
		{[]uint16{0xdbff, 0xdfff}, "\xed\xaf\xbf\xed\xbf\xbf"},
		{[]uint16{0xdc00, 0xd800}, "\xed\xb0\x80\xed\xa0\x80"},
		{[]uint16{0xd83d, 0xde00}, "\xed\xa0\xbd\xed\xb8\x80"},
		{[]uint16{'a', 0, 0, 'b'}, "a\xc0\x80\xc0\x80b"},
	} {
		if s := mutf.Encode(c.u); s != c.want {
			t.Errorf("Encode(%x): % x, not % x", c.u, s, c.want)
		}
		decodes(t, c.want, c.u...)
	}
}

func TestEncodeGivesTheShortestForm(t *testing.T) {
	var every []uint16
	var all strings.Builder
	for c, fs := range forms() {
		every = append(every, uint16(c))
		all.WriteString(fs[0])
		if s := mutf.Encode([]uint16{uint16(c)}); s != fs[0] {
			t.Errorf("Encode(%x): % x, not % x", c, s, fs[0])
		}
	}
	if mutf.Encode(every) != all.String() {
		t.Error("Encode of all chars one behind the other")
	}
}

func TestDecodeOfEncodeIsTheSame(t *testing.T) {
	for c := range lastChar + 1 {
		u := []uint16{uint16(c)}
		decodes(t, mutf.Encode(u), u...)
	}
	lists(edgeChars, 4, func(u []uint16) {
		decodes(t, mutf.Encode(u), u...)
	})
	many := make([]uint16, 1<<18)
	for i := range many {
		many[i] = uint16(i * 40503)
	}
	if u, ok := mutf.Decode(mutf.Encode(many)); !ok || !slices.Equal(u, many) {
		t.Error("of many chars")
	}
}

// The edges of the forms and of the halves of surrogates, and what stands
// beside them.
var edgeChars = []uint16{0, 1, '?', 0x7f, 0x80, 0x7ff, 0x800, 0xd7ff, 0xd800, 0xd83d, 0xdbff, 0xdc00, 0xde00, 0xdfff, 0xe000, 0xffff}

// lists shows each list of at most so many of these chars.
func lists(of []uint16, most int, show func([]uint16)) {
	var play func(u []uint16)
	play = func(u []uint16) {
		show(u)
		if len(u) == most {
			return
		}
		for _, c := range of {
			play(append(u, c))
		}
	}
	play(nil)
}

func TestOutEdges(t *testing.T) {
	for _, c := range []struct {
		u    []uint16
		want string
	}{
		{nil, ""},
		{[]uint16{}, ""},
		{[]uint16{0}, "\x00"},
		{[]uint16{1}, "\x01"},
		{[]uint16{0x7f}, "\x7f"},
		{[]uint16{0x80}, "\xc2\x80"},
		{[]uint16{0x7ff}, "\xdf\xbf"},
		{[]uint16{0x800}, "\xe0\xa0\x80"},
		{[]uint16{0xd7ff}, "\xed\x9f\xbf"},
		{[]uint16{0xe000}, "\xee\x80\x80"},
		{[]uint16{0xfffd}, "\xef\xbf\xbd"},
		{[]uint16{0xffff}, "\xef\xbf\xbf"},
		{[]uint16{'a', 0, 'b'}, "a\x00b"},
		{[]uint16{0xd800, 0xdc00}, "\xf0\x90\x80\x80"},
		{[]uint16{0xd800, 0xdfff}, "\xf0\x90\x8f\xbf"},
		{[]uint16{0xdbff, 0xdc00}, "\xf4\x8f\xb0\x80"},
		{[]uint16{0xdbff, 0xdfff}, "\xf4\x8f\xbf\xbf"},
		{[]uint16{0xd83d, 0xde00, 0xd83d, 0xde01}, "\xf0\x9f\x98\x80\xf0\x9f\x98\x81"},
		{[]uint16{0xd800}, "?"},
		{[]uint16{0xdbff}, "?"},
		{[]uint16{0xdc00}, "?"},
		{[]uint16{0xdfff}, "?"},
		{[]uint16{'a', 0xd800, 'b'}, "a?b"},
		{[]uint16{'a', 0xdfff, 'b'}, "a?b"},
		{[]uint16{0xdc00, 0xd800}, "??"},
		{[]uint16{0xdfff, 0xdbff, 'a'}, "??a"},
		{[]uint16{0xd800, 0xd800, 0xdc00}, "?\xf0\x90\x80\x80"},
		{[]uint16{0xd800, 0xdc00, 0xdc00}, "\xf0\x90\x80\x80?"},
		{[]uint16{0xd800, 'a', 0xdc00}, "?a?"},
		{[]uint16{'a', 0xdbff}, "a?"},
		{[]uint16{0xd800, 0xdc00, 0xd800}, "\xf0\x90\x80\x80?"},
		{[]uint16{0xd7ff, 0xdc00}, "\xed\x9f\xbf?"},
		{[]uint16{0xdbff, 0xe000}, "?\xee\x80\x80"},
	} {
		if b := mutf.Out(c.u); string(b) != c.want {
			t.Errorf("Out(%x): % x, not % x", c.u, b, c.want)
		}
	}
}

func TestOutOfEveryChar(t *testing.T) {
	for c := range lastChar + 1 {
		want := "?"
		if !utf16.IsSurrogate(rune(c)) {
			want = string(utf8.AppendRune(nil, rune(c)))
		}
		if b := mutf.Out([]uint16{uint16(c)}); string(b) != want {
			t.Errorf("Out(%x): % x, not % x", c, b, want)
		}
	}
}

// Each pair of surrogates, 1,024 of them in a list.
func TestOutOfEveryPair(t *testing.T) {
	for high := 0xd800; high <= 0xdbff; high++ {
		var u []uint16
		var want []byte
		for low := 0xdc00; low <= 0xdfff; low++ {
			u = append(u, uint16(high), uint16(low))
			want = utf8.AppendRune(want, utf16.DecodeRune(rune(high), rune(low)))
		}
		if b := mutf.Out(u); !slices.Equal(b, want) || !utf8.Valid(b) {
			t.Errorf("Out of the pairs of %x", high)
		}
	}
}

func TestOutOfListsOfEdges(t *testing.T) {
	lists(edgeChars, 4, func(u []uint16) {
		var want []byte
		for _, r := range utf16.Decode(u) {
			if r == utf8.RuneError { // none of the edges: it is a surrogate that stands alone
				r = '?'
			}
			want = utf8.AppendRune(want, r)
		}
		if b := mutf.Out(u); !slices.Equal(b, want) {
			t.Errorf("Out(%x): % x, not % x", u, b, want)
		}
	})
}

func TestOutOfMany(t *testing.T) {
	u := slices.Repeat([]uint16{0xd83d, 0xde00, 0xdc00, 'a'}, 1<<16)
	want := strings.Repeat("\xf0\x9f\x98\x80?a", 1<<16)
	if string(mutf.Out(u)) != want {
		t.Error("Out of many chars")
	}
	if string(mutf.Out(u[:len(u)-3])) != want[:len(want)-6]+"?" {
		t.Error("Out of many chars, a high one at the end")
	}
}

func TestListsHandedInStay(t *testing.T) {
	whole := append(slices.Clone(edgeChars), edgeChars...)
	for from := range edgeChars {
		u := whole[from : from+len(edgeChars)]
		mutf.Encode(u)
		mutf.Out(u)
		mutf.Encode(u[:1])
		mutf.Out(u[:1])
	}
	if !slices.Equal(whole, append(slices.Clone(edgeChars), edgeChars...)) {
		t.Error("a list that was handed in is another, or its spare room")
	}
}

func TestSpareRoomIsNotRead(t *testing.T) {
	u := []uint16{'a', 0xd800, 0xdc00}
	if b := mutf.Out(u[:2]); string(b) != "a?" {
		t.Errorf("Out: % x", b)
	}
	if s := mutf.Encode(u[:1]); s != "a" {
		t.Errorf("Encode: % x", s)
	}
}

func TestListsHandedInAreNotKept(t *testing.T) {
	u := []uint16{'a', 0x80, 0x800}
	s, b := mutf.Encode(u), mutf.Out(u)
	u[0], u[1], u[2] = 'x', 'y', 'z'
	if s != "a\xc2\x80\xe0\xa0\x80" || string(b) != s {
		t.Error("a later change of the list changes an answer")
	}
}

func TestAnswersAreNewMemory(t *testing.T) {
	for _, s := range []string{"", "a", "ab\xc3\xa9", "\xe2\x82\xac"} {
		want, _ := mutf.Decode(s)
		want = slices.Clone(want)
		one, _ := mutf.Decode(s)
		two, _ := mutf.Decode(s)
		fill(one, 0xeeee)
		three, _ := mutf.Decode(s)
		if !slices.Equal(two, want) || !slices.Equal(three, want) {
			t.Errorf("writing into what Decode(% x) answers changes another answer", s)
		}
	}
	for _, u := range [][]uint16{nil, {'a'}, {'a', 0x80, 0x800, 0xd800, 0xdc00, 0xd800}} {
		given := slices.Clone(u)
		want := string(mutf.Out(u))
		one, two := mutf.Out(u), mutf.Out(u)
		fill(one, 0xee)
		if string(two) != want || string(mutf.Out(u)) != want || !slices.Equal(u, given) {
			t.Errorf("writing into what Out(%x) answers changes another answer", u)
		}
	}
}

// fill writes v everywhere, into the spare room, too.
func fill[T any](list []T, v T) {
	list = list[:cap(list)]
	for i := range list {
		list[i] = v
	}
}
