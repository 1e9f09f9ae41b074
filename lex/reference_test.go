package lex_test

import (
	"math/big"
	"math/rand"
	"regexp"
	"slices"
	"strings"
	"testing"

	"switchback/api"
	"switchback/lex"
)

var words = strings.Fields("break case char continue default do else enum for goto if int return switch unsigned void while")

var signs = strings.Fields("<<= >>= ++ -- << >> <= >= == != && || += -= *= /= %= &= |= ^= + - * / % & | ^ ~ ! < > = ? : ; , ( ) [ ] { }")

var characters = allCharacters()

// allCharacters are the texts of all characters, with their numbers.
func allCharacters() map[string]uint32 {
	all := map[string]uint32{`'\n'`: 10, `'\t'`: 9, `'\r'`: 13, `'\0'`: 0, `'\\'`: '\\', `'\''`: '\'', `'\"'`: '"'}
	for b := range 256 {
		if b != '\'' && b != '\\' && b != '\n' {
			all["'"+string([]byte{byte(b)})+"'"] = uint32(b)
		}
	}
	return all
}

var (
	blankShape  = regexp.MustCompile(`^[\t-\r ]+`)
	lineShape   = regexp.MustCompile(`^//[^\n]*`)
	blockShape  = regexp.MustCompile(`^/\*(?s:.*?)\*/`)
	runShape    = regexp.MustCompile(`^[a-zA-Z0-9_]+`)
	numberShape = regexp.MustCompile(`^(?:0[xX]([0-9a-fA-F]+)|(0[0-7]*)|([1-9][0-9]*))([uU]?)$`)
)

// piece is a token with the place behind it.
type piece struct {
	token api.Token
	end   int
}

// pieces reads a source by the words of the chapter, one shape after the other, as slowly as it likes.
func pieces(src string) ([]piece, int, api.Errno) {
	if len(src) > 20000 {
		return nil, 0, api.ErrLong
	}
	var all []piece
	for at := 0; ; {
		rest := src[at:]
		if rest == "" {
			return append(all, piece{api.Token{Kind: api.TokEnd, At: at}, at}), 0, api.OK
		}
		if n := len(blankShape.FindString(rest)) + len(lineShape.FindString(rest)) + len(blockShape.FindString(rest)); n > 0 {
			at += n
			continue
		}
		token, length, e := pieceAt(rest)
		if e == api.OK && len(all) == 3999 {
			e = api.ErrLexMany
		}
		if e != api.OK {
			return nil, at, e
		}
		token.At = at
		at += length
		all = append(all, piece{token, at})
	}
}

func pieceAt(rest string) (api.Token, int, api.Errno) {
	run := runShape.FindString(rest)
	switch {
	case strings.HasPrefix(rest, "/*"):
		return api.Token{}, 0, api.ErrLexComment
	case run != "" && strings.IndexByte("0123456789", run[0]) >= 0:
		return numberPiece(run)
	case slices.Contains(words, run):
		return api.Token{Kind: api.TokWord, Text: run}, len(run), api.OK
	case len(run) > 31:
		return api.Token{}, 0, api.ErrLexName
	case run != "":
		return api.Token{Kind: api.TokName, Text: run}, len(run), api.OK
	case rest[0] == '\'':
		for text, num := range characters {
			if strings.HasPrefix(rest, text) {
				return api.Token{Kind: api.TokNum, Num: num}, len(text), api.OK
			}
		}
		return api.Token{}, 0, api.ErrLexChar
	}
	longest := ""
	for _, s := range signs {
		if strings.HasPrefix(rest, s) && len(s) > len(longest) {
			longest = s
		}
	}
	if longest == "" {
		return api.Token{}, 0, api.ErrLexByte
	}
	return api.Token{Kind: api.TokSign, Text: longest}, len(longest), api.OK
}

func numberPiece(run string) (api.Token, int, api.Errno) {
	m := numberShape.FindStringSubmatch(run)
	if m == nil {
		return api.Token{}, 0, api.ErrLexNumber
	}
	n := new(big.Int)
	for i, base := range []int{16, 8, 10} {
		if m[i+1] != "" {
			n.SetString(m[i+1], base)
		}
	}
	if n.BitLen() > 32 {
		return api.Token{}, 0, api.ErrLexNumber
	}
	return api.Token{Kind: api.TokNum, Num: uint32(n.Uint64()), Unsigned: m[4] != "" || n.BitLen() == 32}, len(run), api.OK
}

// agrees wants of lex what the slow way answers, and tells that.
func agrees(t *testing.T, src string) ([]piece, bool) {
	t.Helper()
	all, at, e := pieces(src)
	var want []api.Token
	for _, p := range all {
		want = append(want, p.token)
	}
	got, place, errno := lex.Lex(src)
	if place != at || errno != e || !slices.Equal(got, want) {
		t.Errorf("P1.1: %q: %v, %d, %d, want %v, %d, %d", src, got, place, errno, want, at, e)
		return nil, false
	}
	return all, e == api.OK
}

var fragments = []string{
	" ", "\n", "\t", "  ", "//", "// x\n", "/*", "*/", "/* y */", "/**/", "'", "''", "'a'", `'\n'`, `'\0'`, `\`, "0", "1", "08", "017", "0x", "0x1f",
	"u", "U", "x", "e", "_", "a", "ab9", "int", "if", "whilee", "4294967295", "4294967296", "2147483648", "$", "\"", "\xc8", "\x00", ".", "#",
	"+", "-", "*", "/", "%", "&", "|", "^", "~", "!", "<", ">", "=", "?", ":", ";", ",", "(", ")", "[", "]", "{", "}",
}

// rightFragments are those that are never wrong, whatever stands beside them.
var rightFragments = []string{
	" ", "\n", "\v", "// x\n", "/* y */", "/**/", "'a' ", `'\'' `, " 0 ", " 017u ", " 0x1f ", " 4294967295 ", "x", "if", " do ", "a_",
	"+", "-", "*", "%", "&", "|", "^", "~", "!", "<", ">", "=", "?", ":", ";", ",", "(", ")", "[", "]", "{", "}", " / ", " /= ",
}

func someOf(r *rand.Rand, list []string, most int) string {
	var s strings.Builder
	for range r.Intn(most + 1) {
		s.WriteString(list[r.Intn(len(list))])
	}
	return s.String()
}

func TestAgainstReference(t *testing.T) {
	r := rand.New(rand.NewSource(1))
	right, wrong := 0, 0
	for i := range 60000 {
		src := someOf(r, fragments, 8)
		if i%2 == 0 {
			src = someOf(r, rightFragments, 40)
		}
		if _, ok := agrees(t, src); ok {
			right++
		} else {
			wrong++
		}
		if t.Failed() {
			return
		}
	}
	if right < 10000 || wrong < 10000 {
		t.Errorf("the sources are too much alike: %d right, %d wrong", right, wrong)
	}
}

// withoutPlaces are the tokens as they are wherever they stand.
func withoutPlaces(l []api.Token) []api.Token {
	l = slices.Clone(l)
	for i := range l {
		l[i].At = 0
	}
	return l
}

// TestWhatFollows holds P1.2: places rise, and what stands between tokens may be anything blank.
func TestWhatFollows(t *testing.T) {
	r := rand.New(rand.NewSource(2))
	blanks := []string{" ", "\n", "\t", "\v", "\f", "\r", "  ", "\r\n\t"}
	for range 20000 {
		src := someOf(r, rightFragments, 40)
		all, ok := agrees(t, src)
		if !ok {
			continue
		}
		tokens, _, _ := lex.Lex(src)
		other := ""
		for i, p := range all[:len(all)-1] {
			if tokens[i].At >= tokens[i+1].At {
				t.Fatalf("P1.2: %q: token %d and the next one begin at %d, %d", src, i, tokens[i].At, tokens[i+1].At)
			}
			other += src[p.token.At:p.end]
			if p.end < all[i+1].token.At || r.Intn(3) == 0 {
				other += blanks[r.Intn(len(blanks))]
			}
		}
		again, _, e := lex.Lex(other)
		if e != api.OK || !slices.Equal(withoutPlaces(again), withoutPlaces(tokens)) {
			t.Fatalf("P1.2: %q and %q: %v, %v, %d", src, other, tokens, again, e)
		}
		longer, _, e := lex.Lex(src + blanks[r.Intn(6)])
		last := len(tokens) - 1
		if e != api.OK || len(longer) != len(tokens) || !slices.Equal(longer[:last], tokens[:last]) || longer[last] != end(len(src)+1) {
			t.Fatalf("P1.2: %q with a blank: %v, %v, %d", src, tokens, longer, e)
		}
	}
}
