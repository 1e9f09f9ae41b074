package parse_test

import (
	"math/rand"
	"slices"
	"strings"
	"testing"

	"switchback/api"
	"switchback/parse"
)

// grammarText is the chapter's grammar, a rule a line; what is in quotes stands as itself there.
const grammarText = `
file = items END
items =
items = items item
item = enum { entries comma? } ;
item = type NAME ( params ) block
item = type vars ;
entries = entry
entries = entries , entry
comma? =
comma? = ,
entry = NAME
entry = NAME '=' cond
type = void
type = int
type = unsigned
type = char
params =
params = void
params = somep
somep = param
somep = somep , param
param = type NAME
param = type NAME [ ]
vars = var
vars = vars , var
var = NAME size? init?
size? =
size? = [ cond ]
init? =
init? = '=' assign
block = { statements }
statements =
statements = statements statement
statement = ;
statement = block
statement = type vars ;
statement = if ( expr ) statement
statement = if ( expr ) statement else statement
statement = while ( expr ) statement
statement = do statement while ( expr ) ;
statement = for ( first expr? ; expr? ) statement
statement = break ;
statement = continue ;
statement = return expr? ;
statement = goto NAME ;
statement = NAME : statement
statement = switch ( expr ) statement
statement = case cond : statement
statement = default : statement
statement = expr ;
expr? =
expr? = expr
first = ;
first = expr ;
first = type vars ;
expr = assign
expr = expr , assign
assign = cond
assign = cond assigns assign
assigns = '='
assigns = +=
assigns = -=
assigns = *=
assigns = /=
assigns = %=
assigns = <<=
assigns = >>=
assigns = &=
assigns = ^=
assigns = |=
cond = or
cond = or ? expr : cond
or = bits
or = or operator bits
bits = unary
operator = ||
operator = &&
operator = |
operator = ^
operator = &
operator = ==
operator = !=
operator = <
operator = <=
operator = >
operator = >=
operator = <<
operator = >>
operator = +
operator = -
operator = *
operator = /
operator = %
unary = - unary
unary = + unary
unary = ~ unary
unary = ! unary
unary = ++ unary
unary = -- unary
unary = postfix
postfix = primary
postfix = postfix ++
postfix = postfix --
primary = NUMBER
primary = NAME
primary = NAME [ expr ]
primary = NAME ( args )
primary = ( expr )
args =
args = someargs
someargs = assign
someargs = someargs , assign
`

// grammar are the ways of each rule, and whether a rule may be nothing.
type grammar struct {
	ways    map[string][][]string
	nothing map[string]bool
}

func readGrammar() grammar {
	g := grammar{ways: map[string][][]string{}, nothing: map[string]bool{}}
	for _, line := range strings.Split(strings.TrimSpace(grammarText), "\n") {
		parts := strings.Fields(line)
		way := parts[2:]
		for i := range way {
			way[i] = strings.Trim(way[i], "'")
		}
		g.ways[parts[0]] = append(g.ways[parts[0]], way)
		if len(way) == 0 {
			g.nothing[parts[0]] = true
		}
	}
	return g
}

// state is a way of a rule, how much of it was seen, and where it began.
type state struct {
	rule       string
	way        int
	seen, from int
}

// firstWrong is the number of the first token that with those ahead of it begins no file, or -1 (Earley's way: all readings at once).
func (g grammar) firstWrong(l []string) int {
	sets := make([][]state, len(l)+1)
	known := make([]map[state]bool, len(l)+1)
	add := func(k int, s state) {
		if known[k] == nil {
			known[k] = map[state]bool{}
		}
		if !known[k][s] {
			known[k][s] = true
			sets[k] = append(sets[k], s)
		}
	}
	add(0, state{rule: "file"})
	for k := 0; ; k++ {
		for i := 0; i < len(sets[k]); i++ {
			s := sets[k][i]
			way := g.ways[s.rule][s.way]
			switch {
			case s.seen == len(way):
				for _, o := range sets[s.from] {
					if w := g.ways[o.rule][o.way]; o.seen < len(w) && w[o.seen] == s.rule {
						o.seen++
						add(k, o)
					}
				}
			case g.ways[way[s.seen]] != nil:
				next := way[s.seen]
				for j := range g.ways[next] {
					add(k, state{rule: next, way: j, from: k})
				}
				if g.nothing[next] {
					s.seen++
					add(k, s)
				}
			case k < len(l) && l[k] == way[s.seen]:
				s.seen++
				add(k+1, s)
			}
		}
		if k == len(l) {
			return -1
		}
		if len(sets[k+1]) == 0 {
			return k
		}
	}
}

// asWords are the tokens as the grammar calls them.
func asWords(l []api.Token) []string {
	var all []string
	for _, t := range l {
		switch t.Kind {
		case api.TokEnd:
			all = append(all, "END")
		case api.TokName:
			all = append(all, "NAME")
		case api.TokNum:
			all = append(all, "NUMBER")
		default:
			all = append(all, t.Text)
		}
	}
	return all
}

var allTokens = func() []api.Token {
	var all []api.Token
	for _, s := range strings.Fields("break case char continue default do else enum for goto if int return switch unsigned void while") {
		all = append(all, api.Token{Kind: api.TokWord, Text: s})
	}
	for _, s := range strings.Fields("<<= >>= ++ -- << >> <= >= == != && || += -= *= /= %= &= |= ^= + - * / % & | ^ ~ ! < > = ? : ; , ( ) [ ] { }") {
		all = append(all, api.Token{Kind: api.TokSign, Text: s})
	}
	return append(all, api.Token{Kind: api.TokName, Text: "a"}, api.Token{Kind: api.TokNum, Num: 3})
}()

// someToken is one of all that there are; names, numbers and brackets stand more often.
func someToken(r *rand.Rand) api.Token {
	if r.Intn(3) == 0 {
		return allTokens[len(allTokens)-1-r.Intn(8)]
	}
	return allTokens[r.Intn(len(allTokens))]
}

// spoil changes a list of tokens here and there, and leaves the end where it is.
func spoil(r *rand.Rand, l []api.Token) []api.Token {
	l = slices.Clone(l)
	for range 1 + r.Intn(2) {
		k := r.Intn(len(l))
		switch r.Intn(5) {
		case 0:
			if k < len(l)-1 {
				l = slices.Delete(l, k, k+1)
			}
		case 1:
			l = slices.Insert(l, k, someToken(r))
		case 2:
			if k < len(l)-1 {
				l[k] = someToken(r)
			}
		case 3:
			if k < len(l)-2 {
				l[k], l[k+1] = l[k+1], l[k]
			}
		case 4:
			if r.Intn(4) == 0 {
				l = slices.Delete(l, k, len(l)-1)
			}
		}
	}
	for i := range l {
		l[i].At = 3*i + 1
	}
	return l
}

// TestFirstWrongToken holds the places of errors against the grammar itself.
func TestFirstWrongToken(t *testing.T) {
	g := readGrammar()
	r := rand.New(rand.NewSource(3))
	right, wrong := 0, 0
	for range 12000 {
		l := spoil(r, derive(r, nil, 40).tokens)
		if len(l) > 120 {
			continue
		}
		tree, at, e := parse.Parse(l)
		k := g.firstWrong(asWords(l))
		if k < 0 {
			right++
			if e != api.OK || at != 0 || len(tree.Nodes) == 0 {
				t.Fatalf("P2.1: %v: %d at %d, but it is a file", asWords(l), e, at)
			}
			continue
		}
		wrong++
		if e != api.ErrParseToken || at != l[k].At || len(tree.Nodes) != 0 {
			t.Fatalf("P2.1: %v: %d at %d, want token %d at %d", asWords(l), e, at, k, l[k].At)
		}
	}
	if right < 500 || wrong < 3000 {
		t.Errorf("the lists are too much alike: %d right, %d wrong", right, wrong)
	}
}

// TestEveryTokenEverywhere puts every token behind every beginning of a file that has about all in it.
func TestEveryTokenEverywhere(t *testing.T) {
	g := readGrammar()
	l := tokens(t, "enum{A,B=1?2:3,};char c=1,d[2]=3;int f(void){}void g(int a,char b[]){l:if(a)do;while(b,1);else for(int i=0;;)"+
		"switch(a[1])case-1:default:{break;continue;goto l;return;}for(a=b;c;d++)return f(1,2)+ ++a*(3);}")
	for k := range len(l) {
		for _, other := range allTokens {
			list := append(slices.Clone(l[:k]), other, api.Token{Kind: api.TokEnd})
			for i := range list {
				list[i].At = i
			}
			want := g.firstWrong(asWords(list))
			_, at, e := parse.Parse(list)
			if want < 0 && e != api.OK || want >= 0 && (e != api.ErrParseToken || at != want) {
				t.Errorf("P2.1: %v: %d at %d, want token %d", asWords(list), e, at, want)
			}
		}
	}
}
