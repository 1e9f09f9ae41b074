package lex_test

import (
	"slices"
	"strings"
	"testing"
	"unsafe"

	"switchback/api"
	"switchback/lex"
)

func name(at int, text string) api.Token {
	return api.Token{Kind: api.TokName, At: at, Text: text}
}

func word(at int, text string) api.Token {
	return api.Token{Kind: api.TokWord, At: at, Text: text}
}

func sign(at int, text string) api.Token {
	return api.Token{Kind: api.TokSign, At: at, Text: text}
}

func number(at int, num uint32, unsigned bool) api.Token {
	return api.Token{Kind: api.TokNum, At: at, Num: num, Unsigned: unsigned}
}

func end(at int) api.Token {
	return api.Token{Kind: api.TokEnd, At: at}
}

// takes wants that src is just these tokens.
func takes(t *testing.T, src string, want ...api.Token) {
	t.Helper()
	got, at, e := lex.Lex(src)
	if e != api.OK || at != 0 || !slices.Equal(got, want) {
		t.Errorf("P1.1: %.60q: %v, %d, %d, want %v", src, got, at, e, want)
	}
}

// refuses wants that src is wrong at that place, and that nothing else is told.
func refuses(t *testing.T, src string, at int, want api.Errno) {
	t.Helper()
	got, place, e := lex.Lex(src)
	if len(got) != 0 || place != at || e != want {
		t.Errorf("P1.1: %.60q: %d tokens, %d, %d, want the error %d at %d", src, len(got), place, e, want, at)
	}
}

func TestExamples(t *testing.T) {
	takes(t, "a+++b", name(0, "a"), sign(1, "++"), sign(3, "+"), name(4, "b"), end(5))
	takes(t, "0x1Fu", number(0, 31, true), end(5))
	takes(t, "017", number(0, 15, false), end(3))
	takes(t, "2147483648", number(0, 1<<31, true), end(10))
	takes(t, `'\n'`, number(0, 10, false), end(4))
	takes(t, "'a'", number(0, 97, false), end(3))
	for _, s := range []string{"1a", "08", "0x", "4294967296", "1uu"} {
		refuses(t, s, 0, api.ErrLexNumber)
	}
	for _, s := range []string{"''", "'ab'", `'\q'`, "'"} {
		refuses(t, s, 0, api.ErrLexChar)
	}
	refuses(t, "a /*", 2, api.ErrLexComment)
	for _, s := range []string{"$", `"`, `\`, "#", "\xc8"} {
		refuses(t, s, 0, api.ErrLexByte)
	}
}

func TestEmptySource(t *testing.T) {
	takes(t, "", end(0))
	takes(t, " \t\n\v\f\r", end(6))
	takes(t, "// a", end(4))
	takes(t, "/**/", end(4))
}

func TestSourceLength(t *testing.T) {
	takes(t, strings.Repeat(" ", 20000), end(20000))
	refuses(t, strings.Repeat(" ", 20001), 0, api.ErrLong)
	refuses(t, "$"+strings.Repeat(" ", 20000), 0, api.ErrLong)
	refuses(t, strings.Repeat(" ", 19999)+"$", 19999, api.ErrLexByte)
}

func TestEveryByteAlone(t *testing.T) {
	for b := range 256 {
		s := string([]byte{byte(b)})
		switch {
		case strings.Contains("\t\n\v\f\r ", s):
			takes(t, s, end(1))
		case strings.Contains("0123456789", s):
			takes(t, s, number(0, uint32(b-'0'), false), end(1))
		case strings.Contains("abcdefghijklmnopqrstuvwxyzABCDEFGHIJKLMNOPQRSTUVWXYZ_", s):
			takes(t, s, name(0, s), end(1))
		case strings.Contains("+-*/%&|^~!<>=?:;,()[]{}", s):
			takes(t, s, sign(0, s), end(1))
		case s == "'":
			refuses(t, s, 0, api.ErrLexChar)
		default:
			refuses(t, s, 0, api.ErrLexByte)
		}
	}
}

func TestWordsAndNames(t *testing.T) {
	for _, s := range words {
		takes(t, s, word(0, s), end(len(s)))
		for _, near := range []string{s + "_", s + "0", s + "X", "_" + s, strings.ToUpper(s)} {
			takes(t, near, name(0, near), end(len(near)))
		}
	}
	takes(t, "_ _9 aZ", name(0, "_"), name(2, "_9"), name(5, "aZ"), end(7))
	longest := strings.Repeat("n", 31)
	takes(t, longest, name(0, longest), end(31))
	takes(t, longest+" a", name(0, longest), name(32, "a"), end(33))
	refuses(t, " "+longest+"n", 1, api.ErrLexName)
	refuses(t, longest+"9", 0, api.ErrLexName)
	refuses(t, strings.Repeat("x", 20000), 0, api.ErrLexName)
	refuses(t, longest+"n$", 0, api.ErrLexName)
}

func TestNumbers(t *testing.T) {
	for s, want := range map[string]api.Token{
		"0":                    number(0, 0, false),
		"00":                   number(0, 0, false),
		"0u":                   number(0, 0, true),
		"0U":                   number(0, 0, true),
		"7":                    number(0, 7, false),
		"10":                   number(0, 10, false),
		"1u":                   number(0, 1, true),
		"9U":                   number(0, 9, true),
		"017u":                 number(0, 15, true),
		"0x0":                  number(0, 0, false),
		"0Xff":                 number(0, 255, false),
		"0XabcDEF":             number(0, 0xabcdef, false),
		"0x1FU":                number(0, 31, true),
		"2147483647":           number(0, 1<<31-1, false),
		"2147483647u":          number(0, 1<<31-1, true),
		"4294967295":           number(0, 1<<32-1, true),
		"0x7fffffff":           number(0, 1<<31-1, false),
		"0x80000000":           number(0, 1<<31, true),
		"0xFFFFFFFF":           number(0, 1<<32-1, true),
		"017777777777":         number(0, 1<<31-1, false),
		"020000000000":         number(0, 1<<31, true),
		"037777777777u":        number(0, 1<<32-1, true),
		"0x00000000000000011":  number(0, 17, false),
		"00000000000000000017": number(0, 15, false),
	} {
		takes(t, s, want, end(len(s)))
	}
	for _, s := range []string{
		"08", "09", "018", "1a", "1_", "1_0", "0_1", "1uu", "1uU", "0uu", "1ul", "1L", "0x", "0X", "0xu", "0xg", "0x1g", "0x_1", "0b1",
		"0o7", "1x", "00x1", "12e3", "4294967296", "4294967296u", "0x100000000", "040000000000", "18446744073709551616",
		"18446744073709551617", "0x10000000000000001", "99999999999999999999999999999999", "0u8",
	} {
		refuses(t, " "+s, 1, api.ErrLexNumber)
		refuses(t, s+"+$", 0, api.ErrLexNumber)
	}
	refuses(t, "1.5", 1, api.ErrLexByte)
	takes(t, "-1", sign(0, "-"), number(1, 1, false), end(2))
}

func TestCharacters(t *testing.T) {
	for b := range 256 {
		s := "'" + string([]byte{byte(b)}) + "'"
		if b == '\'' || b == '\\' || b == '\n' {
			refuses(t, s, 0, api.ErrLexChar)
		} else {
			takes(t, s, number(0, uint32(b), false), end(3))
		}
	}
	meant := map[byte]uint32{'n': 10, 't': 9, 'r': 13, '0': 0, '\\': 92, '\'': 39, '"': 34}
	for b := range 256 {
		s := `'\` + string([]byte{byte(b)}) + "'"
		if num, ok := meant[byte(b)]; ok {
			takes(t, s, number(0, num, false), end(4))
		} else {
			refuses(t, s, 0, api.ErrLexChar)
		}
	}
	for _, s := range []string{"'a", `'\`, `'\n`, `'\'`, "'\n'", `'\00'`, `'\na'`, "'é'", "'a '", `'\n`, "'  '"} {
		refuses(t, "x"+s, 1, api.ErrLexChar)
	}
	takes(t, "'a''b'c", number(0, 97, false), number(3, 98, false), name(6, "c"), end(7))
	takes(t, "'/'/'*'//'", number(0, 47, false), sign(3, "/"), number(4, 42, false), end(10))
	refuses(t, "'/*'", 0, api.ErrLexChar)
}

func TestComments(t *testing.T) {
	takes(t, "a//b\nc", name(0, "a"), name(5, "c"), end(6))
	takes(t, "a//b\rc", name(0, "a"), end(6))
	takes(t, "a//\\\nc", name(0, "a"), name(5, "c"), end(6))
	takes(t, "///*\nc", name(5, "c"), end(6))
	takes(t, "a/*b\n*/c", name(0, "a"), name(7, "c"), end(8))
	takes(t, "a/***/c", name(0, "a"), name(6, "c"), end(7))
	takes(t, "a/*/*/c", name(0, "a"), name(6, "c"), end(7))
	takes(t, "a/*//*/c", name(0, "a"), name(7, "c"), end(8))
	takes(t, "/*\x00\xff$'*/", end(8))
	takes(t, "a/ /b", name(0, "a"), sign(1, "/"), sign(3, "/"), name(4, "b"), end(5))
	takes(t, "a*/ b", name(0, "a"), sign(1, "*"), sign(2, "/"), name(4, "b"), end(5))
	takes(t, "a/=b", name(0, "a"), sign(1, "/="), name(3, "b"), end(4))
	takes(t, "in/**/t", name(0, "in"), name(6, "t"), end(7))
	for _, s := range []string{"/*", "/*/", "/**", "/* *", "/*$", "/*\n//*"} {
		refuses(t, s, 0, api.ErrLexComment)
		refuses(t, "/**/ "+s, 5, api.ErrLexComment)
	}
}

// TestSigns holds every text of up to four bytes of signs against the longest ones of the chapter's list.
func TestSigns(t *testing.T) {
	for _, s := range signs {
		takes(t, s, sign(0, s), end(len(s)))
	}
	const some = "+-*%&|^!<>=~/;"
	var all func(s string, more int)
	all = func(s string, more int) {
		agrees(t, s)
		for i := 0; i < len(some) && more > 0; i++ {
			all(s+some[i:i+1], more-1)
		}
	}
	all("", 4)
	takes(t, "a<<=b>>=c", name(0, "a"), sign(1, "<<="), name(4, "b"), sign(5, ">>="), name(8, "c"), end(9))
	takes(t, "<<<=>>>=", sign(0, "<<"), sign(2, "<="), sign(4, ">>"), sign(6, ">="), end(8))
	takes(t, "&&=||=", sign(0, "&&"), sign(2, "="), sign(3, "||"), sign(5, "="), end(6))
}

func TestManyTokens(t *testing.T) {
	full := strings.Repeat(";", 3999)
	got, at, e := lex.Lex(full + " /**/ ")
	if len(got) != 4000 || at != 0 || e != api.OK || got[3999] != end(4005) {
		t.Errorf("P1.1: 3999 signs and the end: %d tokens, %d, %d", len(got), at, e)
	}
	refuses(t, full+";", 3999, api.ErrLexMany)
	refuses(t, full+"  x$", 4001, api.ErrLexMany)
	refuses(t, full+"++", 3999, api.ErrLexMany)
	refuses(t, full+" 'a'", 4000, api.ErrLexMany)
	// Of one place what is wrong with the token itself comes first.
	refuses(t, full+" $", 4000, api.ErrLexByte)
	refuses(t, full+" 08", 4000, api.ErrLexNumber)
	refuses(t, full+" ''", 4000, api.ErrLexChar)
	refuses(t, full+" /*", 4000, api.ErrLexComment)
	refuses(t, full+strings.Repeat("n", 32), 3999, api.ErrLexName)
	// The first place decides.
	refuses(t, "$"+full+";", 0, api.ErrLexByte)
	refuses(t, full+";/*", 3999, api.ErrLexMany)
}

func TestFirstPlaceDecides(t *testing.T) {
	refuses(t, "a $ 08", 2, api.ErrLexByte)
	refuses(t, "a 08 $", 2, api.ErrLexNumber)
	refuses(t, "08/*", 0, api.ErrLexNumber)
	refuses(t, "'/*", 0, api.ErrLexChar)
}

// TestNewMemory wants that one answer does not hang on what was done to another (R5, R6).
func TestNewMemory(t *testing.T) {
	const src = "int main(){return 'a'+0x10u;}"
	first, _, _ := lex.Lex(src)
	kept := slices.Clone(first)
	full := first[:cap(first)]
	for i := range full {
		full[i] = api.Token{Kind: 99, Text: "spoiled"}
	}
	second, at, e := lex.Lex(src)
	if at != 0 || e != api.OK || !slices.Equal(second, kept) {
		t.Errorf("R5: %v, %d, %d, want %v", second, at, e, kept)
	}
}

// TestNoTextIsKept wants texts whose bytes are not those of the source (R5).
func TestNoTextIsKept(t *testing.T) {
	src := strings.Clone("first if second+=third<=")
	begin := uintptr(unsafe.Pointer(unsafe.StringData(src)))
	l, _, _ := lex.Lex(src)
	for _, token := range l[:len(l)-1] {
		if at := uintptr(unsafe.Pointer(unsafe.StringData(token.Text))); at >= begin && at < begin+uintptr(len(src)) {
			t.Errorf("R5: the text %s is the source's own memory", token.Text)
		}
	}
	if len(l) != 7 {
		t.Errorf("%d tokens", len(l))
	}
}
