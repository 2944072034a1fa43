package cpool_test

import (
	"math"
	"slices"
	"testing"

	"obelisk/api"
	"obelisk/cpool"
)

// An answer is what Text, Class and Member tell of one entry; nil: nothing.
type answer struct {
	text, class *string
	member      []string
}

func some(s string) *string { return &s }

// asks holds what is told of entry i of p.
func asks(t *testing.T, p []api.Const, i int, want answer) {
	t.Helper()
	text, ok := cpool.Text(p, i)
	one(t, "Text", i, text, ok, want.text)
	class, ok := cpool.Class(p, i)
	one(t, "Class", i, class, ok, want.class)
	c, n, d, ok := cpool.Member(p, i)
	told := want.member
	if told == nil {
		told = []string{"", "", ""}
	}
	if ok != (want.member != nil) || !slices.Equal([]string{c, n, d}, told) {
		t.Errorf("Member %d of %s: %q %q %q %v, not %q", i, brief(p), c, n, d, ok, want.member)
	}
}

func one(t *testing.T, call string, i int, got string, ok bool, want *string) {
	t.Helper()
	if want == nil {
		want = some("")
		ok = !ok
	}
	if !ok || got != *want {
		t.Errorf("%s of entry %d: %q, not %q, or said wrongly to be there or not", call, i, got, *want)
	}
}

// beyond are numbers of no entry in a pool of this count.
func beyond(count int) []int {
	return []int{
		count, count + 1, count + 2, 999, 1000, 1001, 65535, 65536, 1 << 31, 1 << 32, 1<<32 + 1, math.MaxInt - 1, math.MaxInt,
		-1, -2, -count, -65536, -1 << 31, -1 << 32, math.MinInt, math.MinInt + 1,
	}
}

func TestAskOfEachEntry(t *testing.T) {
	p := pool(sample()...)
	want := map[int]answer{
		1: {text: some("a/B")}, 6: {text: some("f")}, 7: {text: some("I")}, 10: {text: some("()V")}, 15: {text: some("<init>")}, 18: {text: some("[[La;")},
		2: {class: some("a/B")}, 19: {class: some("[[La;")},
		9:  {member: []string{"a/B", "f", "I"}},
		12: {member: []string{"a/B", "f", "()V"}},
		13: {member: []string{"a/B", "f", "()V"}},
		17: {member: []string{"a/B", "<init>", "()V"}},
		20: {member: []string{"[[La;", "f", "()V"}},
	}
	for i := range p {
		asks(t, p, i, want[i])
	}
	for _, i := range beyond(len(p)) {
		asks(t, p, i, answer{})
	}
}

func TestAskOfTheLastEntry(t *testing.T) {
	for _, tag := range kept {
		list := wellMade(tag)
		p := pool(list...)
		want := map[int]answer{
			api.TUtf8: {text: some("text")}, api.TClass: {class: some("A")}, api.TField: {member: []string{"A", "A", "I"}},
			api.TMethod: {member: []string{"A", "A", "()V"}}, api.TIMethod: {member: []string{"A", "A", "()V"}},
		}
		asks(t, p, 7, want[tag])
		asks(t, p, len(p), answer{})
		asks(t, p[:7], 7, answer{})
	}
}

func TestAskOfNoPool(t *testing.T) {
	for _, p := range [][]api.Const{nil, {}, {{}}, make([]api.Const, 3), wellMade(api.TUtf8)[:0]} {
		for i := range 4 {
			asks(t, p, i, answer{})
		}
		for _, i := range beyond(4) {
			asks(t, p, i, answer{})
		}
	}
}

// The empty text is one.
func TestAskOfEmptyTexts(t *testing.T) {
	p := pool(utf(""), class(1), name(1, 1), member(api.TField, 2, 3))
	asks(t, p, 1, answer{text: some("")})
	asks(t, p, 2, answer{class: some("")})
	asks(t, p, 4, answer{member: []string{"", "", ""}})
}

// Of pools that Read did not make the tags alone are asked.
func TestAskOfWhatReadWouldRefuse(t *testing.T) {
	p := pool(utf("\x00.;"), class(1), utf("f.g"), utf("Q"), name(3, 4), member(api.TField, 2, 5), member(api.TMethod, 2, 5), member(api.TIMethod, 2, 5))
	asks(t, p, 1, answer{text: some("\x00.;")})
	asks(t, p, 2, answer{class: some("\x00.;")})
	for i := 6; i <= 8; i++ {
		asks(t, p, i, answer{member: []string{"\x00.;", "f.g", "Q"}})
	}
	long := make([]api.Const, 5000)
	long[4999], long[4998] = utf("far"), class(4999)
	asks(t, long, 4999, answer{text: some("far")})
	asks(t, long, 4998, answer{class: some("far")})
}

// An entry is known by its tag, whatever else stands in it.
func TestAskOfEachTag(t *testing.T) {
	ahead := pool(utf("A"), class(1), utf("I"), name(1, 3))
	for tag := -2; tag < 300; tag++ {
		p := append(slices.Clone(ahead), api.Const{Tag: tag, Text: "t", Num: 1, A: 2, B: 4}, api.Const{Tag: tag, Text: "t", Num: 1, A: 1, B: 1})
		var five, six answer
		switch tag {
		case api.TUtf8:
			five.text, six.text = some("t"), some("t")
		case api.TClass:
			six.class = some("A")
		case api.TField, api.TMethod, api.TIMethod:
			five.member = []string{"A", "A", "I"}
		}
		asks(t, p, 5, five)
		asks(t, p, 6, six)
	}
}

// Each number that an entry holds, in turn, names no entry or one of another
// tag.
func TestAskOfEntriesThatNameNone(t *testing.T) {
	p := pool(utf("A"), class(1), utf("f"), utf("I"), name(3, 4), integer(1), long(1), str(1), member(api.TField, 2, 5)) // to 10, 8 is none
	for n := range len(p) + 3 {
		named(t, p, n)
	}
	for _, n := range beyond(len(p)) {
		named(t, p, n)
	}
}

// named asks of entries that name entry n.
func named(t *testing.T, p []api.Const, n int) {
	t.Helper()
	text := n == 1 || n == 3 || n == 4
	var told answer
	if text {
		told.class = &p[n].Text
	}
	asks(t, append(slices.Clone(p), class(n)), 11, told)
	for _, tag := range references {
		for _, broken := range []struct {
			more []api.Const
			ok   bool
			want []string
		}{
			{[]api.Const{member(tag, n, 5)}, n == 2, []string{"A", "f", "I"}},
			{[]api.Const{member(tag, 2, n)}, n == 5, []string{"A", "f", "I"}},
			{[]api.Const{member(tag, 12, 5), class(n)}, text, []string{textAt(p, n), "f", "I"}},
			{[]api.Const{member(tag, 2, 12), name(n, 4)}, text, []string{"A", textAt(p, n), "I"}},
			{[]api.Const{member(tag, 2, 12), name(3, n)}, text, []string{"A", "f", textAt(p, n)}},
		} {
			whole := append(slices.Clone(p), broken.more...)
			if !broken.ok {
				broken.want = nil
			}
			asks(t, whole, 11, answer{member: broken.want})
		}
	}
}

func textAt(p []api.Const, n int) string {
	if n < 0 || n >= len(p) {
		return ""
	}
	return p[n].Text
}

func TestEntriesThatNameThemselves(t *testing.T) {
	asks(t, pool(class(1)), 1, answer{})
	asks(t, pool(class(2), class(1)), 1, answer{})
	asks(t, pool(class(2), class(3), utf("A")), 1, answer{})
	for _, tag := range references {
		asks(t, pool(member(tag, 1, 1)), 1, answer{})
		asks(t, pool(utf("A"), class(1), name(3, 3), member(tag, 2, 3)), 4, answer{})
	}
}

func TestPoolsHandedInStay(t *testing.T) {
	want := pool(sample()...)
	room := append(slices.Clone(want), utf("spare"), class(1))
	p := room[:len(want)]
	for i := -1; i < len(room); i++ {
		cpool.Text(p, i)
		cpool.Class(p, i)
		cpool.Member(p, i)
	}
	asks(t, p, len(want), answer{})
	asks(t, p, len(want)+1, answer{})
	if !slices.Equal(p, want) || room[len(want)] != utf("spare") || room[len(want)+1] != class(1) {
		t.Error("asking changes the pool")
	}
}

// What is told hangs on the pool as it is, not on what was told before.
func TestAnswersHangOnThePoolAlone(t *testing.T) {
	p := pool(utf("A"), class(1), utf("f"), utf("I"), name(3, 4), member(api.TField, 2, 5))
	for _, s := range []string{"A", "B", "", "A"} {
		p[1].Text = s
		asks(t, p, 1, answer{text: some(s)})
		asks(t, p, 2, answer{class: some(s)})
		asks(t, p, 6, answer{member: []string{s, "f", "I"}})
	}
	p[4] = class(1)
	asks(t, p, 6, answer{})
}
