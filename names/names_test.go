// Tests of P3.1 (doc/03-names.md) and of what P0.1 to P0.6 say of its calls.
package names_test

import (
	"slices"
	"strings"
	"testing"

	"obelisk/names"
)

// Texts that are no modified UTF-8.
var noText = []string{
	"\x00", "a\x00", "\x00a", "a\x00b",
	"\x80", "\xbf", "a\x80", "\x80a", "a\xbfb",
	"\xc2", "\xdf", "\xe0", "\xe0\xa0", "\xef\xbf", "\xed\xa0", "a\xc2", "a\xe0\xa0", "\xc2a", "\xe0\xa0a", "\xe0aa",
	"\xf0", "\xf0\x9f\x98\x80", "\xf4\x8f\xbf\xbf", "\xf8", "\xfc", "\xfe", "\xff", "a\xff", "\xffa", "\xf0a",
	"\xc3\xa9\x80", "\xc3\xc3\xa9", "\xe2\x82\xac\xac",
}

// Unqualified names, those with `<` or `>` aside.
var plainNames = []string{
	"a", "Z", "0", "_", "$", "x1", "9lives", "main", "toString", "lambda$main$0", "package-info", "a-b",
	" ", "a b", " a", "a ", "\t", "\n", "\r", "\x01", "\x1f", "\x7f",
	"(", ")", "()V", "!", "\"", "'", "#", "%", "&", "*", "+", ",", "-", ":", "=", "?", "@", "\\", "]", "^", "`", "{", "|", "}", "~",
	"\u00e9", "\u20ac", "caf\u00e9", "\u65e5\u672c", "a\u0301",
	"\xc0\x80", "a\xc0\x80b",
	"\xed\xa0\xbd\xed\xb8\x80", "\xed\xa0\x80", "\xed\xbf\xbf", "\xef\xbf\xbf",
	"\xc1\x81", "\xc1\xa1b", "\xe0\x81\x81", "a\xe0\x80\x80", "\xe0\x83\xa9",
}

// holds asks Plain, Class and Method of s.
func holds(t *testing.T, s string, plain, class, method bool) {
	t.Helper()
	if got := names.Plain(s); got != plain {
		t.Errorf("Plain(%q): %v", s, got)
	}
	if got := names.Class(s); got != class {
		t.Errorf("Class(%q): %v", s, got)
	}
	if got := names.Method(s); got != method {
		t.Errorf("Method(%q): %v", s, got)
	}
}

func TestPlainNames(t *testing.T) {
	for _, s := range plainNames {
		holds(t, s, true, true, true)
	}
}

func TestNamesOfAngles(t *testing.T) {
	for _, s := range []string{"<", ">", "<>", "a<b", "a>", "<a", ">a", "<a>", "a<b>c", "\u00e9<", ">\u20ac"} {
		holds(t, s, true, true, false)
	}
}

func TestNothingIsNoName(t *testing.T) {
	holds(t, "", false, false, false)
}

func TestNoText(t *testing.T) {
	for _, s := range noText {
		holds(t, s, false, false, false)
	}
}

// Each char that no unqualified name holds: alone, first, in the middle and
// last, and many of them.
func TestCharsOfNoName(t *testing.T) {
	for _, bad := range []string{".", ";", "["} {
		for _, s := range []string{bad, bad + "a", "a" + bad + "b", "a" + bad, bad + bad, bad + "\u20ac", "\u20ac" + bad,
			"java" + bad + "lang" + bad + "Object", "<init>" + bad, bad + "<init>", strings.Repeat("a", 200) + bad} {
			holds(t, s, false, false, false)
			holds(t, "a/"+s, false, false, false)
			holds(t, s+"/a", false, false, false)
		}
	}
	for _, s := range []string{"/", "/a", "a/", "a//b", "//"} {
		holds(t, s, false, false, false)
	}
	for _, s := range []string{"a/b", "java/lang/Object", "\u20ac/b"} {
		holds(t, s, false, true, false)
	}
}

// A name is asked as its bytes stand: none of these is the byte of a char that
// no name holds.
func TestLongFormsOfCharsOfNoName(t *testing.T) {
	for _, c := range []byte(".;[/<>") {
		long := string([]byte{0xc0 | c>>6, 0x80 | c&0x3f})
		longer := string([]byte{0xe0, 0x80 | c>>6, 0x80 | c&0x3f})
		for _, s := range []string{long, longer, "a" + long, long + "a", "a" + longer + "b"} {
			holds(t, s, true, true, true)
		}
	}
	holds(t, "\xc0\xbcinit\xc0\xbe", true, true, true)
}

// isPlain says by hand what a text of at most two bytes is.
func isPlain(s string) bool {
	switch {
	case s == "" || strings.Trim(s, ".;[/\x00") != s:
		return false
	case s[0] < 0x80:
		return len(s) == 1 || s[1] < 0x80
	}
	return len(s) == 2 && s[0] >= 0xc0 && s[0] <= 0xdf && s[1] >= 0x80 && s[1] <= 0xbf
}

func TestEveryNameOfOneByteAndOfTwo(t *testing.T) {
	ask := func(s string) {
		plain := isPlain(s)
		holds(t, s, plain, plain, plain && !strings.ContainsAny(s, "<>"))
	}
	for one := range 256 {
		ask(string([]byte{byte(one)}))
		for two := range 256 {
			ask(string([]byte{byte(one), byte(two)}))
		}
	}
}

func TestPlainHasNoBound(t *testing.T) {
	for _, n := range []int{255, 256, 65535, 1 << 20} {
		s := strings.Repeat("a", n)
		if !names.Plain(s) || !names.Method(s) {
			t.Errorf("a name of %d bytes", n)
		}
		for _, bad := range []string{".", ";", "[", "/", "\x00", "\xff", "\xc2"} {
			if names.Plain(s+bad) || names.Method(s+bad) || names.Plain(bad+s) || names.Method(bad+s) {
				t.Errorf("a name of %d bytes and %q", n, bad)
			}
		}
	}
}

// Each short list of parts, good ones and bad ones: all of them must be plain.
func TestClassOfParts(t *testing.T) {
	parts := []string{"a", "Bc", "<init>", "\u20ac", "", ".", "a;b", "[", "\xff", "\xe0\xa0"}
	var play func(list []string)
	play = func(list []string) {
		if len(list) > 0 {
			want := !slices.ContainsFunc(list, func(p string) bool { return slices.Index(parts, p) >= 4 })
			if s := strings.Join(list, "/"); names.Class(s) != want {
				t.Errorf("Class(%q): %v", s, !want)
			}
		}
		if len(list) == 4 {
			return
		}
		for _, p := range parts {
			play(append(list, p))
		}
	}
	play(nil)
}

func TestClassOfPartsThatAreNoText(t *testing.T) {
	for _, bad := range noText {
		for _, s := range []string{bad, bad + "/a", "a/" + bad, "a/" + bad + "/b"} {
			if names.Class(s) {
				t.Errorf("Class(%q)", s)
			}
		}
	}
}

func TestClassOfAFormThatIsCutInTwo(t *testing.T) {
	for _, s := range []string{"\xc3/\xa9", "\xe2/\x82\xac", "\xe2\x82/\xac", "a\xc3/\xa9b", "a/\xe2\x82/\xac/b", "\xc0/\x80"} {
		holds(t, s, false, false, false)
	}
	holds(t, "\xc3\xa9/\xe2\x82\xac", false, true, false)
}

func TestClassOfEmptyParts(t *testing.T) {
	for _, s := range []string{"", "/", "//", "///", "/a", "a/", "a//b", "/a/b", "a/b/", "//a", "a//", "a/b//c", "/a/"} {
		if names.Class(s) {
			t.Errorf("Class(%q)", s)
		}
	}
}

// The bound is one of bytes, of the whole name.
func TestClassOfAtMost255Bytes(t *testing.T) {
	for _, n := range []int{1, 2, 253, 254, 255, 256, 257, 300, 510, 65535, 1 << 20} {
		for _, s := range []string{
			strings.Repeat("a", n),
			ofBytes("a/", "b", n),
			ofBytes("abc/", "c", n),
			ofBytes("\u00e9", "x", n),
			ofBytes("\u20ac/", "y", n),
			strings.Repeat("a", n/2) + "z" + strings.Repeat("a", n-n/2-1),
		} {
			if len(s) != n {
				t.Fatalf("%d bytes, not %d", len(s), n)
			}
			if names.Class(s) != (n <= 255) {
				t.Errorf("Class of %d bytes: %v: %.20q", n, n > 255, s)
			}
		}
	}
	if names.Class(strings.Repeat("\u20ac", 86)) || !names.Class(strings.Repeat("\u20ac", 85)) {
		t.Error("Class of chars of three bytes")
	}
	if names.Class(strings.Repeat("a", 254)+"/") || names.Class("/"+strings.Repeat("a", 254)) || names.Class(strings.Repeat("/", 255)) {
		t.Error("Class of 255 bytes with an empty part")
	}
}

// ofBytes makes a text of n bytes: the one again and again, and single bytes
// of the other to fill it.
func ofBytes(again, fill string, n int) string {
	many := max(n-1, 0) / len(again)
	return strings.Repeat(again, many) + strings.Repeat(fill, n-many*len(again))
}

func TestMethodsOfTheMachine(t *testing.T) {
	holds(t, "<init>", true, true, true)
	holds(t, "<clinit>", true, true, true)
	for _, s := range []string{"<init>x", "x<init>", "<Init>", "<INIT>", "<CLINIT>", "<Clinit>", "<clinit>x", "x<clinit>", "<init", "init>", "<clinit",
		"clinit>", "<init>>", "<<init>", "<init><init>", "<clinit><init>", "< init>", "<init> ", " <init>", "<in it>", "<ini>", "<init>\xc0\x80", "<>", "<cinit>"} {
		holds(t, s, true, true, false)
	}
	for _, s := range []string{"init", "clinit", "Init"} {
		holds(t, s, true, true, true)
	}
	for _, s := range []string{"<init>\x00", "<init>\xff", "<init>;", "[<init>", "<init>.", "<clinit>\x80"} {
		holds(t, s, false, false, false)
	}
	for _, s := range []string{"a/<init>", "<init>/a"} {
		holds(t, s, false, true, false)
	}
}

func TestPackage(t *testing.T) {
	for s, want := range map[string]string{
		"":                     "",
		"a":                    "",
		"Object":               "",
		"a.b":                  "",
		"a/b":                  "a",
		"a/b/c":                "a/b",
		"java/lang/Object":     "java/lang",
		"/":                    "",
		"/a":                   "",
		"/a/b":                 "/a",
		"a/":                   "a",
		"a/b/":                 "a/b",
		"//":                   "/",
		"///":                  "//",
		"//a":                  "/",
		"a//b":                 "a/",
		"a//":                  "a/",
		"a.b/c.d":              "a.b",
		"a/b.c":                "a",
		"\u00e9/\u20ac":        "\u00e9",
		"\xff\x00/\x80":        "\xff\x00",
		"\x00":                 "",
		"\xe2\x82/\xac":        "\xe2\x82",
		"a\xc0\xafb":           "",
		"a/b\xc0\xafc":         "a",
		"[Ljava/lang/Object;":  "[Ljava/lang",
		"<init>/<clinit>/a":    "<init>/<clinit>",
		"a\\b":                 "",
		"a b/c":                "a b",
		"\u2215/\u2215/\u2215": "\u2215/\u2215",
	} {
		if got := names.Package(s); got != want {
			t.Errorf("Package(%q): %q, not %q", s, got, want)
		}
	}
	long := strings.Repeat("ab/", 1<<18)
	if names.Package(long+"c") != long[:len(long)-1] {
		t.Error("Package of a long name")
	}
}

func TestDots(t *testing.T) {
	for s, want := range map[string]string{
		"":                      "",
		"a":                     "a",
		"java/lang/Object":      "java.lang.Object",
		"a/b":                   "a.b",
		"/":                     ".",
		"//":                    "..",
		"///":                   "...",
		"a//b":                  "a..b",
		"a///b/c":               "a...b.c",
		"/a/":                   ".a.",
		".":                     ".",
		"a.b":                   "a.b",
		"a.b/c":                 "a.b.c",
		"./.":                   "...",
		"\xff/\x00/\x80":        "\xff.\x00.\x80",
		"\xff":                  "\xff",
		"\xe2\x82/\xac":         "\xe2\x82.\xac",
		"\xc0\xaf":              "\xc0\xaf",
		"\xe0\x80\xaf/":         "\xe0\x80\xaf.",
		"\u20ac/\u00e9":         "\u20ac.\u00e9",
		"a\\b":                  "a\\b",
		"[Ljava/lang/Object;":   "[Ljava.lang.Object;",
		"\xed\xa0\x80/\xf0\x9f": "\xed\xa0\x80.\xf0\x9f",
	} {
		if got := names.Dots(s); got != want {
			t.Errorf("Dots(%q): %q, not %q", s, got, want)
		}
	}
	if names.Dots(strings.Repeat("ab/", 1<<18)) != strings.Repeat("ab.", 1<<18) {
		t.Error("Dots of a long name")
	}
}

// Each byte, alone and between others: Dots changes a `/` and nothing else.
func TestDotsOfEveryByte(t *testing.T) {
	for b := range 256 {
		to := byte(b)
		if b == '/' {
			to = '.'
		}
		if got := names.Dots(string([]byte{byte(b)})); got != string([]byte{to}) {
			t.Errorf("Dots(%q): %q", []byte{byte(b)}, got)
		}
		if got := names.Dots(string([]byte{'/', byte(b), byte(b), '/'})); got != string([]byte{'.', to, to, '.'}) {
			t.Errorf("Dots of %q between: %q", []byte{byte(b)}, got)
		}
	}
}

func TestAnswersHangOnTheTextAlone(t *testing.T) {
	ask := func() (all []bool) {
		for _, s := range slices.Concat(plainNames, noText, []string{"a/b", "<init>", "<a>", ""}) {
			all = append(all, names.Plain(s), names.Class(s), names.Method(s))
		}
		return all
	}
	if !slices.Equal(ask(), ask()) {
		t.Error("one and the same text, two answers")
	}
}
