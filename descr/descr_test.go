// Tests of P4.1 (doc/04-descr.md) and of what P0.1 to P0.6 say of its calls.
package descr_test

import (
	"regexp"
	"slices"
	"strings"
	"testing"

	"obelisk/api"
	"obelisk/descr"
)

// Kinds of one char that a field may have.
const bases = "BCIJSZ"

// Names of classes.
var classes = []string{
	"a", "L", "V", "I", "LI", "a/b", "java/lang/Object", "java/lang/String", "<init>", "a<b>", "$", "0", " ", "-",
	")", "(", "()V", "a)V", "a/)", ")/(", "V)V", "\u00e9/\u20ac", "\xc0\x80", "\xed\xa0\xbd\xed\xb8\x80", "\xed\xa0\x80",
	"\xc0\xaf", "\xc0\xbb", strings.Repeat("n", 254), strings.Repeat("n", 255), strings.Repeat("n/", 127) + "m", strings.Repeat("\u20ac", 85),
}

// Texts without `;` that are no names of classes.
var noClasses = []string{
	"", ".", "a.b", "java.lang.Object", "[", "[a", "a[", "[I", "[La", "/", "/a", "a/", "a//b", "a/b/", "//",
	"\x00", "a\x00", "\xff", "\x80", "\xc2", "a\xe2\x82", "\xf0\x9f\x98\x80", "\xc3/\xa9",
	strings.Repeat("n", 256), strings.Repeat("n", 257), strings.Repeat("n/", 127) + "nm", strings.Repeat("\u20ac", 86), strings.Repeat("/", 255), strings.Repeat("n", 1<<16),
}

// Texts that no type begins with; none of them makes one with what may stand
// behind it here.
var noTypes = []string{
	"F", "D", "V", "A", "G", "K", "M", "N", "O", "P", "Q", "T", "X", "Y", "W", "b", "c", "i", "j", "s", "z", "l", "v", "a",
	"(", ";", "/", ".", " ", "\x00", "\xff", "\u20ac", "]", "*", "+", "-",
	"[V", "[F", "[D", "[[V", "[[D", "[;", "[ ", "[(", "L;", "[L;", "L/;", "[[La.b;", " I", "\tI", ";I", "[F[", "[D[[I",
}

type reading struct {
	text string
	want api.Type
}

// singles are descriptors of types that are no arrays.
func singles() (all []reading) {
	for _, kind := range []byte(bases) {
		all = append(all, reading{string(rune(kind)), api.Type{Kind: kind}})
	}
	for _, name := range classes {
		all = append(all, reading{"L" + name + ";", api.Type{Kind: 'L', Name: name}})
	}
	return all
}

// arrays are descriptors of arrays of so many dimensions.
func arrays(dims int) (all []reading) {
	for _, r := range singles() {
		all = append(all, reading{
			strings.Repeat("[", dims) + r.text,
			api.Type{Kind: '[', Name: r.want.Name, Dims: dims, Elem: r.want.Kind},
		})
	}
	return all
}

// fields are descriptors of fields of every shape.
func fields() []reading {
	all := singles()
	for _, dims := range []int{1, 2, 3, 4, 15, 16, 17, 127, 128, 253, 254, 255} {
		all = append(all, arrays(dims)...)
	}
	return all
}

// reads holds that s is a field's descriptor that says want.
func reads(t *testing.T, s string, want api.Type) {
	t.Helper()
	if got, ok := descr.Field(s); !ok || got != want {
		t.Errorf("Field(%.40q): %v %v, not %v", s, got, ok, want)
	}
}

// noField holds that s is no field's descriptor.
func noField(t *testing.T, s string) {
	t.Helper()
	if got, ok := descr.Field(s); ok || got != (api.Type{}) {
		t.Errorf("Field(%.40q): %v %v", s, got, ok)
	}
}

// tells holds that s is a method's descriptor that says this.
func tells(t *testing.T, s string, args []api.Type, result api.Type) {
	t.Helper()
	list, r, ok := descr.Method(s)
	if !ok || !slices.Equal(list, args) || r != result {
		t.Errorf("Method(%.60q): %v %v %v, not %v %v", s, list, r, ok, args, result)
	}
	if got := descr.Args(s); got != wordsOf(args) {
		t.Errorf("Args(%.60q): %d", s, got)
	}
}

// noMethod holds that s is no method's descriptor.
func noMethod(t *testing.T, s string) {
	t.Helper()
	if list, r, ok := descr.Method(s); ok || len(list) != 0 || r != (api.Type{}) {
		t.Errorf("Method(%.60q): %d, %v %v", s, len(list), r, ok)
	}
	if got := descr.Args(s); got != -1 {
		t.Errorf("Args(%.60q): %d", s, got)
	}
}

func wordsOf(args []api.Type) int {
	sum := len(args)
	for _, a := range args {
		if a.Kind == 'J' {
			sum++
		}
	}
	return sum
}

func TestFieldOfEachKind(t *testing.T) {
	reads(t, "B", api.Type{Kind: 'B'})
	reads(t, "C", api.Type{Kind: 'C'})
	reads(t, "I", api.Type{Kind: 'I'})
	reads(t, "J", api.Type{Kind: 'J'})
	reads(t, "S", api.Type{Kind: 'S'})
	reads(t, "Z", api.Type{Kind: 'Z'})
	reads(t, "La;", api.Type{Kind: 'L', Name: "a"})
	reads(t, "Ljava/lang/Object;", api.Type{Kind: 'L', Name: "java/lang/Object"})
	reads(t, "[I", api.Type{Kind: '[', Dims: 1, Elem: 'I'})
	reads(t, "[[Ljava/lang/Object;", api.Type{Kind: '[', Dims: 2, Elem: 'L', Name: "java/lang/Object"})
	for _, r := range fields() {
		reads(t, r.text, r.want)
	}
}

func TestNoField(t *testing.T) {
	noField(t, "")
	for _, s := range noTypes {
		noField(t, s)
		noField(t, s+"I")
		noField(t, s+"La;")
	}
	noField(t, "()V")
	noField(t, "(I)I")
}

// Each byte alone, behind `[` and in place of the `L`.
func TestFieldOfEveryByte(t *testing.T) {
	for b := range 256 {
		s := string([]byte{byte(b)})
		base := strings.IndexByte(bases, byte(b)) >= 0
		if _, ok := descr.Field(s); ok != base {
			t.Errorf("Field(%q): %v", s, ok)
		}
		if _, ok := descr.Field("[" + s); ok != base {
			t.Errorf("Field([%q): %v", s, ok)
		}
		if _, ok := descr.Field(s + "a;"); ok != (b == 'L') {
			t.Errorf("Field(%qa;): %v", s, ok)
		}
		if _, ok := descr.Field(s + "I"); ok != (b == '[') {
			t.Errorf("Field(%qI): %v", s, ok)
		}
		if _, _, ok := descr.Method("()" + s); ok != (base || b == 'V') {
			t.Errorf("Method(()%q): %v", s, ok)
		}
		if _, _, ok := descr.Method("(" + s + ")V"); ok != base {
			t.Errorf("Method((%q)V): %v", s, ok)
		}
	}
}

func TestFieldWithSomethingAround(t *testing.T) {
	for _, r := range slices.Concat(singles(), arrays(1), arrays(255)) {
		for _, more := range []string{"I", "V", ";", " ", "\x00", "[", "[I", "La;", "L", ")", "\n", "\xff"} {
			noField(t, r.text+more)
		}
		for _, more := range []string{"I", " ", "(", ")", ";", "V", "\x00", "Z", "F"} {
			noField(t, more+r.text)
		}
		noField(t, r.text+r.text)
	}
}

func TestFieldOfNoClass(t *testing.T) {
	for _, name := range noClasses {
		for _, ahead := range []string{"L", "[L", "[[L", strings.Repeat("[", 255) + "L"} {
			noField(t, ahead+name+";")
			noField(t, ahead+name)
			noField(t, ahead+"a;"+name+";")
			noField(t, ahead+name+";;")
		}
	}
	for _, name := range classes {
		for _, ahead := range []string{"L", "[L", "[[L"} {
			noField(t, ahead+name)
			noField(t, ahead+name+";;")
			noField(t, ahead+";"+name+";")
			noField(t, ahead+name+";b;")
		}
	}
}

func TestFieldOfNamesOf255Bytes(t *testing.T) {
	for _, n := range []int{1, 2, 254, 255, 256, 257, 65535} {
		name := strings.Repeat("x", n)
		if n > 255 {
			noField(t, "L"+name+";")
			noField(t, "[L"+name+";")
			continue
		}
		reads(t, "L"+name+";", api.Type{Kind: 'L', Name: name})
		reads(t, "[L"+name+";", api.Type{Kind: '[', Dims: 1, Elem: 'L', Name: name})
	}
}

func TestFieldOfDimensions(t *testing.T) {
	for dims := 1; dims <= 255; dims++ {
		s := strings.Repeat("[", dims)
		noField(t, s)
		reads(t, s+"I", api.Type{Kind: '[', Dims: dims, Elem: 'I'})
	}
	for _, dims := range []int{256, 257, 300, 510, 511, 512, 65536, 1 << 20} {
		noField(t, strings.Repeat("[", dims))
		for _, r := range arrays(dims % 7) {
			noField(t, strings.Repeat("[", dims-dims%7)+r.text)
		}
	}
	for _, r := range arrays(256) {
		noField(t, r.text)
		noMethod(t, "("+r.text+")V")
		noMethod(t, "()"+r.text)
	}
}

func TestMethodOfNoArguments(t *testing.T) {
	tells(t, "()V", nil, api.Type{Kind: 'V'})
	for _, r := range fields() {
		tells(t, "()"+r.text, nil, r.want)
	}
}

func TestMethodOfEachArgument(t *testing.T) {
	void, long := api.Type{Kind: 'V'}, api.Type{Kind: 'J'}
	for _, r := range fields() {
		tells(t, "("+r.text+")V", []api.Type{r.want}, void)
		tells(t, "("+r.text+")"+r.text, []api.Type{r.want}, r.want)
		tells(t, "(J"+r.text+")J", []api.Type{long, r.want}, long)
		tells(t, "("+r.text+"J)J", []api.Type{r.want, long}, long)
		tells(t, "("+r.text+r.text+")[J", []api.Type{r.want, r.want}, api.Type{Kind: '[', Dims: 1, Elem: 'J'})
	}
}

func TestMethodOfSeveralArguments(t *testing.T) {
	tells(t, "(IJ[[Lb/c;ZLa;[S)Ljava/lang/String;", []api.Type{
		{Kind: 'I'}, {Kind: 'J'}, {Kind: '[', Dims: 2, Elem: 'L', Name: "b/c"}, {Kind: 'Z'}, {Kind: 'L', Name: "a"}, {Kind: '[', Dims: 1, Elem: 'S'},
	}, api.Type{Kind: 'L', Name: "java/lang/String"})
	var text strings.Builder
	var args []api.Type
	for _, r := range fields() {
		text.WriteString(r.text)
		args = append(args, r.want)
	}
	tells(t, "("+text.String()+")V", args, api.Type{Kind: 'V'})
}

func TestNamesOfArgumentsMayHoldBrackets(t *testing.T) {
	void := api.Type{Kind: 'V'}
	tells(t, "(L);)V", []api.Type{{Kind: 'L', Name: ")"}}, void)
	tells(t, "(L()V;I)V", []api.Type{{Kind: 'L', Name: "()V"}, {Kind: 'I'}}, void)
	tells(t, "([La)V;)V", []api.Type{{Kind: '[', Dims: 1, Elem: 'L', Name: "a)V"}}, void)
	tells(t, "(I)L)V;", []api.Type{{Kind: 'I'}}, api.Type{Kind: 'L', Name: ")V"})
	noMethod(t, "(La)V")
	noMethod(t, "(L)V;")
	noMethod(t, "(La)V;")
}

func TestNoMethod(t *testing.T) {
	for _, s := range []string{
		"", "(", ")", "V", "()", "(I)", "(I", "(IJ", "I", "IV", "I)V", ")V", "V()", "(V", "()(", "())", "())V", "(()V", "(())V", "(()V)V",
		"()VV", "()V ", " ()V", "()V;", "()VI", "()IV", "()II", "()IJ", "()[", "()[V", "()[[V", "()F", "()D", "()[F", "()[D", "()L", "()La", "()L;", "()La.b;",
		"()La;;", "()La;V", "()v", "()\x00", "()V\x00", "\x00()V", "()V()V", "()()V", "(V)V", "(IV)V", "(VI)V", "([V)V", "(F)V", "(D)V", "(ID)V",
		"(La;", "(La;V", "([)V", "([I[)V", "(I;)V", "(I J)V", "(I,J)V", "( )V", "() V", "[I", "La;", "(]I)V", "{I}V",
	} {
		noMethod(t, s)
	}
	for _, r := range fields() {
		noMethod(t, r.text)
		noMethod(t, "("+r.text)
		noMethod(t, "("+r.text+"V")
		noMethod(t, "("+r.text+")")
		noMethod(t, r.text+")V")
		noMethod(t, "("+r.text+")VV")
		noMethod(t, "("+r.text+")"+r.text+"V")
		noMethod(t, "()V"+r.text)
		noMethod(t, "()"+r.text+r.text)
		noMethod(t, r.text+"()V")
	}
}

// What no type is, among the arguments at every place, and as what is returned.
func TestMethodRefusesAtEveryPlace(t *testing.T) {
	refused := slices.Clone(noTypes)
	for _, name := range noClasses {
		refused = append(refused, "L"+name+";", "[L"+name+";")
	}
	refused = append(refused, strings.Repeat("[", 256)+"I", strings.Repeat("[", 256)+"La;", "[", "[[")
	good := []string{"I", "J", "[[B", "La/b;", "Z"}
	for _, bad := range refused {
		noMethod(t, "("+bad+")V")
		noMethod(t, "()"+bad+")")
		if bad != "V" {
			noMethod(t, "()"+bad)
			noMethod(t, "(IJ)"+bad)
		}
		for at := range len(good) + 1 {
			if strings.HasSuffix(bad, "[") && at < len(good) {
				continue // there it makes an array of what follows
			}
			noMethod(t, "("+strings.Join(slices.Insert(slices.Clone(good), at, bad), "")+")V")
		}
	}
}

func TestMethodHasNoBoundOfArguments(t *testing.T) {
	for _, n := range []int{127, 128, 254, 255, 256, 257, 1000, 1 << 18} {
		for _, r := range []reading{{"I", api.Type{Kind: 'I'}}, {"J", api.Type{Kind: 'J'}}, {"[La;", api.Type{Kind: '[', Dims: 1, Elem: 'L', Name: "a"}}} {
			many := strings.Repeat(r.text, n)
			tells(t, "("+many+")I", slices.Repeat([]api.Type{r.want}, n), api.Type{Kind: 'I'})
			noMethod(t, "("+many)
			noMethod(t, "("+many+"F)V")
			noMethod(t, "("+many+")D")
		}
	}
	noMethod(t, strings.Repeat("(", 1<<20))
	noMethod(t, "("+strings.Repeat("[", 1<<20))
	noMethod(t, "("+strings.Repeat("L", 1<<20))
	noMethod(t, "("+strings.Repeat("[I", 1<<18)+"[)V")
}

// A grammar of its own says what a short text is, over the chars that matter.
func TestEveryShortText(t *testing.T) {
	const plain = `[^.;\[/]+`
	const field = `\[*(?:[BCIJSZ]|L` + plain + `(?:/` + plain + `)*;)`
	isField := regexp.MustCompile(`^` + field + `$`)
	isMethod := regexp.MustCompile(`^\((?:` + field + `)*\)(?:V|` + field + `)$`)
	one := regexp.MustCompile(field)
	ask := func(s string) {
		if t.Failed() {
			return // one fault is told, not each text that shows it
		}
		if got, ok := descr.Field(s); ok != isField.MatchString(s) || ok && descr.Print(got) != s || !ok && got != (api.Type{}) {
			t.Errorf("Field(%q): %v %v", s, got, ok)
		}
		list, r, ok := descr.Method(s)
		if ok != isMethod.MatchString(s) || !ok && (len(list) != 0 || r != (api.Type{}) || descr.Args(s) != -1) {
			t.Errorf("Method(%q): %v %v %v", s, list, r, ok)
		}
		if !ok {
			return
		}
		parts := one.FindAllString(s, -1)
		if r.Kind == 'V' {
			parts = append(parts, "V")
		}
		if told := printed(append(list, r)); !slices.Equal(told, parts) {
			t.Errorf("Method(%q): %q", s, told)
		}
	}
	every("IJ[La;)(V/", 5, ask)
	every("(I[L;)V", 7, ask)
	every("I[L;a", 8, ask)
}

// every asks of each text of at most n of these chars.
func every(chars string, n int, ask func(string)) {
	var play func(s string)
	play = func(s string) {
		ask(s)
		if len(s) == n {
			return
		}
		for _, c := range chars {
			play(s + string(c))
		}
	}
	play("")
}

func printed(list []api.Type) (all []string) {
	for _, one := range list {
		all = append(all, descr.Print(one))
	}
	return all
}

// Each descriptor, cut short or with one byte changed, left out or doubled:
// what is read of it, if anything, is printed as it stands.
func TestBrokenDescriptors(t *testing.T) {
	for _, s := range []string{"I", "[[J", "La/b;", "[La/b;", "()V", "(IJ)V", "(La/b;[[JI)[La;", "(L);)L(;"} {
		for at := range len(s) + 1 {
			asWritten(t, s[:at])
			asWritten(t, s[at:])
			for b := range 256 {
				asWritten(t, s[:at]+string([]byte{byte(b)})+s[at:])
				if at < len(s) {
					asWritten(t, s[:at]+string([]byte{byte(b)})+s[at+1:])
				}
			}
		}
	}
}

func asWritten(t *testing.T, s string) {
	t.Helper()
	if got, ok := descr.Field(s); ok != (descr.Print(got) == s && s != "") || !ok && got != (api.Type{}) {
		t.Errorf("Field(%q): %v %v", s, got, ok)
	}
	list, r, ok := descr.Method(s)
	if again := "(" + strings.Join(printed(list), "") + ")" + descr.Print(r); ok != (again == s && descr.Print(r) != "") || !ok && (len(list) != 0 || r != (api.Type{})) {
		t.Errorf("Method(%q): %v %v %v", s, list, r, ok)
	}
}

func TestWords(t *testing.T) {
	for kind := range 256 {
		want := 0
		switch kind {
		case 'J':
			want = 2
		case 'B', 'C', 'I', 'S', 'Z', 'L', '[':
			want = 1
		}
		for _, one := range []api.Type{
			{Kind: byte(kind)},
			{Kind: byte(kind), Name: "a"},
			{Kind: byte(kind), Dims: 1, Elem: 'J'},
			{Kind: byte(kind), Dims: 255, Elem: 'L', Name: "a"},
			{Kind: byte(kind), Dims: -1, Elem: 'V', Name: "."},
		} {
			if got := descr.Words(one); got != want {
				t.Errorf("Words(%v): %d", one, got)
			}
		}
	}
	if descr.Words(api.Type{}) != 0 || descr.Words(api.Type{Name: "a", Dims: 1, Elem: 'J'}) != 0 {
		t.Error("Words of no type")
	}
	for _, r := range fields() {
		want := 1
		if r.text == "J" {
			want = 2
		}
		if got := descr.Words(r.want); got != want {
			t.Errorf("Words(%.40q): %d", r.text, got)
		}
	}
}

func TestArgs(t *testing.T) {
	for s, want := range map[string]int{
		"()V": 0, "()J": 0, "()[J": 0, "(I)V": 1, "(J)V": 2, "(J)J": 2, "([J)V": 1, "([[J)J": 1, "(JJ)V": 4, "(J[J)V": 3, "([JJ)V": 3,
		"(BCISZ)V": 5, "(BCIJSZ)V": 7, "(La;)V": 1, "(La;J[La;)J": 4, "(LJ;)V": 1, "(LJ;LJJ;)V": 2, "(IJ[BLa;)V": 5, "(JIJIJ)I": 8,
		"": -1, "J": -1, "(J": -1, "(J)": -1, "(J)VV": -1, "(JV)V": -1, "(JF)V": -1, "(JD)V": -1, "(J)D": -1, "V": -1, "()": -1, "JJ)V": -1,
	} {
		if got := descr.Args(s); got != want {
			t.Errorf("Args(%q): %d, not %d", s, got, want)
		}
	}
}

func TestPrint(t *testing.T) {
	for _, r := range fields() {
		if got := descr.Print(r.want); got != r.text {
			t.Errorf("Print(%v): %.40q", r.want, got)
		}
	}
	if got := descr.Print(api.Type{Kind: 'V'}); got != "V" {
		t.Errorf("Print of V: %q", got)
	}
}

func TestPrintOfEveryKind(t *testing.T) {
	for kind := range 256 {
		want, array := "", ""
		if strings.IndexByte(bases, byte(kind)) >= 0 {
			want, array = string(rune(kind)), "[["+string(rune(kind))
		}
		if kind == 'V' {
			want = "V"
		}
		if got := descr.Print(api.Type{Kind: byte(kind)}); got != want {
			t.Errorf("Print of kind %d: %q", kind, got)
		}
		if got := descr.Print(api.Type{Kind: '[', Dims: 2, Elem: byte(kind)}); got != array {
			t.Errorf("Print of an array of kind %d: %q", kind, got)
		}
	}
}

func TestPrintOfNoType(t *testing.T) {
	list := []api.Type{
		{}, {Kind: 'L'}, {Kind: '['}, {Name: "a"}, {Dims: 1, Elem: 'I'}, {Dims: 1}, {Elem: 'I'}, {Name: "a", Dims: 1, Elem: 'L'},
		{Kind: '[', Elem: 'I'}, {Kind: '[', Dims: 1}, {Kind: '[', Dims: 1, Name: "a"}, {Kind: '[', Elem: 'L', Name: "a"},
		{Kind: '[', Dims: 1, Elem: 'L'}, {Kind: '[', Dims: 1, Elem: 'V'}, {Kind: '[', Dims: 1, Elem: '['}, {Kind: '[', Dims: 1, Elem: '[', Name: "a"},
		{Kind: 'F'}, {Kind: 'D'}, {Kind: 'A', Name: "a"}, {Kind: ';'}, {Kind: '('}, {Kind: 255}, {Kind: 'l', Name: "a"},
	}
	for _, dims := range []int{0, -1, -255, 256, 257, 512, 1 << 31, 1 << 40, 1<<63 - 1, -1 << 63} {
		list = append(list, api.Type{Kind: '[', Dims: dims, Elem: 'I'}, api.Type{Kind: '[', Dims: dims, Elem: 'L', Name: "a"})
	}
	for _, name := range slices.Concat(noClasses, []string{";", "a;", "a;b", ";a", "La;", "[La;"}) {
		list = append(list, api.Type{Kind: 'L', Name: name}, api.Type{Kind: '[', Dims: 1, Elem: 'L', Name: name}, api.Type{Kind: '[', Dims: 255, Elem: 'L', Name: name})
	}
	for _, one := range list {
		if got := descr.Print(one); got != "" {
			t.Errorf("Print(%.80v): %.40q", one, got)
		}
	}
}

// What has no meaning for the type's kind is not looked at.
func TestPrintLooksAtTheMeantAlone(t *testing.T) {
	for _, one := range []struct {
		given api.Type
		want  string
	}{
		{api.Type{Kind: 'I', Name: "a", Dims: 3, Elem: 'J'}, "I"},
		{api.Type{Kind: 'V', Name: ".", Dims: -1, Elem: 'F'}, "V"},
		{api.Type{Kind: 'L', Name: "a", Dims: 3, Elem: 'J'}, "La;"},
		{api.Type{Kind: '[', Name: ".", Dims: 1, Elem: 'J'}, "[J"},
	} {
		if got := descr.Print(one.given); got != one.want {
			t.Errorf("Print(%v): %q", one.given, got)
		}
	}
}

func TestListsAreNewMemory(t *testing.T) {
	other := api.Type{Kind: 'x', Name: "y", Dims: 9, Elem: 'z'}
	for _, s := range []string{"()V", "(I)V", "(IJ)V", "(La;[[Lb;J)La;", "(IIIII)V", "(" + strings.Repeat("J[La;", 50) + ")V"} {
		want, _, _ := descr.Method(s)
		want = slices.Clone(want)
		words := descr.Args(s)
		one, _, _ := descr.Method(s)
		two, _, _ := descr.Method(s)
		fill(one, other)
		three, _, _ := descr.Method(s)
		if !slices.Equal(two, want) || !slices.Equal(three, want) || descr.Args(s) != words {
			t.Errorf("writing into what Method(%.40q) answers changes another answer", s)
		}
	}
}

// fill writes v everywhere, into the spare room, too.
func fill[T any](list []T, v T) {
	list = list[:cap(list)]
	for i := range list {
		list[i] = v
	}
}

func TestAnswersHangOnTheTextAlone(t *testing.T) {
	all := fields()
	for range 2 {
		for _, r := range all {
			reads(t, r.text, r.want)
			noField(t, "F")
			noMethod(t, r.text)
			tells(t, "("+r.text+")V", []api.Type{r.want}, api.Type{Kind: 'V'})
		}
		slices.Reverse(all)
	}
}
