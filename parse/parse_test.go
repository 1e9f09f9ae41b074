package parse_test

import (
	"fmt"
	"reflect"
	"slices"
	"strings"
	"testing"
	"unsafe"

	"switchback/api"
	"switchback/lex"
	"switchback/parse"
)

func tokens(t *testing.T, src string) []api.Token {
	t.Helper()
	l, at, e := lex.Lex(src)
	if e != api.OK {
		t.Fatalf("lex: %.60q: %d at %d", src, e, at)
	}
	return l
}

// sameNodes holds nodes against one another; a list without elements may be nil.
func sameNodes(a, b []api.Node) bool {
	return slices.EqualFunc(a, b, func(x, y api.Node) bool {
		same := slices.Equal(x.Kids, y.Kids)
		x.Kids, y.Kids = nil, nil
		return same && reflect.DeepEqual(x, y)
	})
}

func takes(t *testing.T, src string, want ...api.Node) {
	t.Helper()
	tree, at, e := parse.Parse(tokens(t, src))
	if e != api.OK || at != 0 || !sameNodes(tree.Nodes, want) {
		t.Errorf("P2.1: %.60q: %d, %d\ngot  %+v\nwant %+v", src, at, e, tree.Nodes, want)
	}
}

// takesBody wants these nodes of a statement within `int main(){..}`, its place and the numbers of kids told from the brace on.
func takesBody(t *testing.T, statement string, want ...api.Node) {
	t.Helper()
	const ahead = "int main(){"
	var all []api.Node
	for _, n := range want {
		n.At += len(ahead)
		all = append(all, n)
	}
	last := len(all)
	all = append(all,
		api.Node{Kind: api.NodeBlock, At: len(ahead) - 1, Kids: []int{last - 1}},
		api.Node{Kind: api.NodeFunc, Type: api.TypeInt, Name: "main", Kids: []int{last}},
		api.Node{Kind: api.NodeFile, Kids: []int{last + 1}})
	takes(t, ahead+statement+"}", all...)
}

// refuses wants that the token at that place is the first one that cannot stand.
func refuses(t *testing.T, src string, at int) {
	t.Helper()
	refusesTokens(t, tokens(t, src), at, api.ErrParseToken)
}

func refusesTokens(t *testing.T, l []api.Token, at int, want api.Errno) {
	t.Helper()
	tree, place, e := parse.Parse(l)
	if len(tree.Nodes) != 0 || place != at || e != want {
		t.Errorf("P2.1: %.300v: %d nodes, %d, %d, want the error %d at %d", l, len(tree.Nodes), place, e, want, at)
	}
}

// shape is an expression or a statement as a text with all its brackets.
func shape(nodes []api.Node, i int) string {
	n := nodes[i]
	s := fmt.Sprintf("[%d.%d.%d.%d%s", n.Kind, n.Op, n.Type, n.Num, n.Name)
	for _, k := range n.Kids {
		s += shape(nodes, k)
	}
	return s + "]"
}

func shapeOf(t *testing.T, src string) string {
	t.Helper()
	tree, at, e := parse.Parse(tokens(t, src))
	if e != api.OK {
		t.Fatalf("P2.1: %q: %d at %d", src, e, at)
	}
	return shape(tree.Nodes, len(tree.Nodes)-1)
}

// same wants that two statements have one tree, but for places.
func same(t *testing.T, a, b string) {
	t.Helper()
	if shapeOf(t, "int main(){"+a+"}") != shapeOf(t, "int main(){"+b+"}") {
		t.Errorf("P2.1: %s and %s are not the same", a, b)
	}
}

func unlike(t *testing.T, a, b string) {
	t.Helper()
	if shapeOf(t, "int main(){"+a+"}") == shapeOf(t, "int main(){"+b+"}") {
		t.Errorf("P2.1: %s and %s are the same", a, b)
	}
}

func TestExamples(t *testing.T) {
	takes(t, "int x;",
		api.Node{Kind: api.NodeVar, At: 4, Type: api.TypeInt, Name: "x"},
		api.Node{Kind: api.NodeDecl, Kids: []int{0}},
		api.Node{Kind: api.NodeFile, Kids: []int{1}})
	same(t, "a=b=c;", "a=(b=c);")
	same(t, "a-b-c;", "(a-b)-c;")
	same(t, "a?b:c?d:e;", "a?b:(c?d:e);")
	same(t, "a||b&&c|d;", "a||(b&&(c|d));")
	same(t, "-a++;", "-(a++);")
	same(t, "!a[1];", "!(a[1]);")
	takesBody(t, "if(1)if(2);else;",
		api.Node{Kind: api.NodeNum, At: 3, Type: api.TypeInt, Num: 1},
		api.Node{Kind: api.NodeNum, At: 8, Type: api.TypeInt, Num: 2},
		api.Node{Kind: api.NodeEmpty, At: 10},
		api.Node{Kind: api.NodeEmpty, At: 15},
		api.Node{Kind: api.NodeIf, At: 5, Kids: []int{1, 2, 3}},
		api.Node{Kind: api.NodeIf, At: 0, Kids: []int{0, 4}})
	refuses(t, "int main(){x:}", 13)
	takes(t, "int f(void){}",
		api.Node{Kind: api.NodeBlock, At: 11},
		api.Node{Kind: api.NodeFunc, Type: api.TypeInt, Name: "f", Kids: []int{0}},
		api.Node{Kind: api.NodeFile, Kids: []int{1}})
	takes(t, "int f(void a){}",
		api.Node{Kind: api.NodeParam, At: 6, Type: api.TypeVoid, Name: "a"},
		api.Node{Kind: api.NodeBlock, At: 13},
		api.Node{Kind: api.NodeFunc, Type: api.TypeInt, Name: "f", Kids: []int{0, 1}},
		api.Node{Kind: api.NodeFile, Kids: []int{2}})
	takes(t, "", api.Node{Kind: api.NodeFile})
}

func TestFileItems(t *testing.T) {
	takes(t, " enum { A , B = 2 , } ; ",
		api.Node{Kind: api.NodeItem, At: 8, Name: "A"},
		api.Node{Kind: api.NodeNum, At: 16, Type: api.TypeInt, Num: 2},
		api.Node{Kind: api.NodeItem, At: 12, Name: "B", Kids: []int{1}},
		api.Node{Kind: api.NodeEnum, At: 1, Kids: []int{0, 2}},
		api.Node{Kind: api.NodeFile, At: 0, Kids: []int{3}})
	takes(t, "char a[4],b=1,c;",
		api.Node{Kind: api.NodeNum, At: 7, Type: api.TypeInt, Num: 4},
		api.Node{Kind: api.NodeVar, At: 5, Op: 1, Type: api.TypeChar, Name: "a", Kids: []int{0}},
		api.Node{Kind: api.NodeNum, At: 12, Type: api.TypeInt, Num: 1},
		api.Node{Kind: api.NodeVar, At: 10, Type: api.TypeChar, Name: "b", Kids: []int{2}},
		api.Node{Kind: api.NodeVar, At: 14, Type: api.TypeChar, Name: "c"},
		api.Node{Kind: api.NodeDecl, Kids: []int{1, 3, 4}},
		api.Node{Kind: api.NodeFile, Kids: []int{5}})
	takes(t, "void v[2]=3;",
		api.Node{Kind: api.NodeNum, At: 7, Type: api.TypeInt, Num: 2},
		api.Node{Kind: api.NodeNum, At: 10, Type: api.TypeInt, Num: 3},
		api.Node{Kind: api.NodeVar, At: 5, Op: 1, Type: api.TypeVoid, Name: "v", Kids: []int{0, 1}},
		api.Node{Kind: api.NodeDecl, Kids: []int{2}},
		api.Node{Kind: api.NodeFile, Kids: []int{3}})
	takes(t, "unsigned f(char a[],unsigned b){} int g(){}",
		api.Node{Kind: api.NodeParam, At: 11, Op: 1, Type: api.TypeChar, Name: "a"},
		api.Node{Kind: api.NodeParam, At: 20, Type: api.TypeUnsigned, Name: "b"},
		api.Node{Kind: api.NodeBlock, At: 31},
		api.Node{Kind: api.NodeFunc, Type: api.TypeUnsigned, Name: "f", Kids: []int{0, 1, 2}},
		api.Node{Kind: api.NodeBlock, At: 41},
		api.Node{Kind: api.NodeFunc, At: 34, Type: api.TypeInt, Name: "g", Kids: []int{4}},
		api.Node{Kind: api.NodeFile, Kids: []int{3, 5}})
}

func TestStatements(t *testing.T) {
	num := func(at, n int) api.Node {
		return api.Node{Kind: api.NodeNum, At: at, Type: api.TypeInt, Num: n}
	}
	empty := func(at int) api.Node {
		return api.Node{Kind: api.NodeEmpty, At: at}
	}
	takesBody(t, ";", empty(0))
	takesBody(t, "{ ; }", empty(2), api.Node{Kind: api.NodeBlock, Kids: []int{0}})
	takesBody(t, "(1)+2;", num(1, 1), num(4, 2),
		api.Node{Kind: api.NodeBinary, At: 3, Op: api.OpAdd, Kids: []int{0, 1}},
		api.Node{Kind: api.NodeExpr, At: 0, Kids: []int{2}})
	takesBody(t, "int x=1;", num(6, 1),
		api.Node{Kind: api.NodeVar, At: 4, Type: api.TypeInt, Name: "x", Kids: []int{0}},
		api.Node{Kind: api.NodeDecl, Kids: []int{1}})
	takesBody(t, "if(1);else{}", num(3, 1), empty(5),
		api.Node{Kind: api.NodeBlock, At: 10},
		api.Node{Kind: api.NodeIf, Kids: []int{0, 1, 2}})
	takesBody(t, "while(1);", num(6, 1), empty(8), api.Node{Kind: api.NodeWhile, Kids: []int{0, 1}})
	takesBody(t, "do;while(1);", empty(2), num(9, 1), api.Node{Kind: api.NodeDo, Kids: []int{0, 1}})
	takesBody(t, "for(;;);", empty(4), empty(5), empty(6), empty(7), api.Node{Kind: api.NodeFor, Kids: []int{0, 1, 2, 3}})
	takesBody(t, "for(1; 2; 3);", num(4, 1), num(7, 2), num(10, 3), empty(12), api.Node{Kind: api.NodeFor, Kids: []int{0, 1, 2, 3}})
	takesBody(t, "for(int i;;3);",
		api.Node{Kind: api.NodeVar, At: 8, Type: api.TypeInt, Name: "i"},
		api.Node{Kind: api.NodeDecl, At: 4, Kids: []int{0}},
		empty(10), num(11, 3), empty(13),
		api.Node{Kind: api.NodeFor, Kids: []int{1, 2, 3, 4}})
	takesBody(t, "break;", api.Node{Kind: api.NodeBreak})
	takesBody(t, "continue;", api.Node{Kind: api.NodeContinue})
	takesBody(t, "return;", api.Node{Kind: api.NodeReturn})
	takesBody(t, "return 1;", num(7, 1), api.Node{Kind: api.NodeReturn, Kids: []int{0}})
	takesBody(t, "goto l;", api.Node{Kind: api.NodeGoto, Name: "l"})
	takesBody(t, "l: m:;", empty(5),
		api.Node{Kind: api.NodeLabel, At: 3, Name: "m", Kids: []int{0}},
		api.Node{Kind: api.NodeLabel, At: 0, Name: "l", Kids: []int{1}})
	takesBody(t, "switch(1)case 2:default:;", num(7, 1), num(14, 2), empty(24),
		api.Node{Kind: api.NodeDefault, At: 16, Kids: []int{2}},
		api.Node{Kind: api.NodeCase, At: 9, Kids: []int{1, 3}},
		api.Node{Kind: api.NodeSwitch, Kids: []int{0, 4}})
}

func TestExpressions(t *testing.T) {
	a := api.Node{Kind: api.NodeName, Name: "a"}
	b := api.Node{Kind: api.NodeName, At: 2, Name: "b"}
	expr := func(statement string, want ...api.Node) {
		t.Helper()
		takesBody(t, statement, append(want, api.Node{Kind: api.NodeExpr, Kids: []int{len(want) - 1}})...)
	}
	expr("a;", a)
	expr("4294967295;", api.Node{Kind: api.NodeNum, Type: api.TypeUnsigned, Num: 1<<32 - 1})
	expr("1u;", api.Node{Kind: api.NodeNum, Type: api.TypeUnsigned, Num: 1})
	expr("'a';", api.Node{Kind: api.NodeNum, Type: api.TypeInt, Num: 97})
	expr("a[b];", b, api.Node{Kind: api.NodeIndex, Name: "a", Kids: []int{0}})
	expr("a();", api.Node{Kind: api.NodeCall, Name: "a"})
	expr("a(b,c);", b, api.Node{Kind: api.NodeName, At: 4, Name: "c"}, api.Node{Kind: api.NodeCall, Name: "a", Kids: []int{0, 1}})
	expr("a(b,c,d);", b, api.Node{Kind: api.NodeName, At: 4, Name: "c"}, api.Node{Kind: api.NodeName, At: 6, Name: "d"},
		api.Node{Kind: api.NodeCall, Name: "a", Kids: []int{0, 1, 2}})
	expr("a=b;", a, b, api.Node{Kind: api.NodeAssign, At: 1, Kids: []int{0, 1}})
	expr("a,b;", a, b, api.Node{Kind: api.NodeComma, At: 1, Kids: []int{0, 1}})
	expr("a?b:c;", a, b, api.Node{Kind: api.NodeName, At: 4, Name: "c"}, api.Node{Kind: api.NodeCond, At: 1, Kids: []int{0, 1, 2}})
	for sign, op := range map[string]int{"-": api.OpNeg, "+": api.OpPlus, "~": api.OpNot, "!": api.OpNil} {
		expr(sign+" b;", b, api.Node{Kind: api.NodeUnary, Op: op, Kids: []int{0}})
	}
	for sign, op := range map[string]int{"++": api.OpAdd, "--": api.OpSub} {
		expr(sign+"b;", b, api.Node{Kind: api.NodePre, Op: op, Kids: []int{0}})
		expr("a"+sign+";", a, api.Node{Kind: api.NodePost, At: 1, Op: op, Kids: []int{0}})
	}
	for sign, op := range map[string]int{"+=": api.OpAdd, "-=": api.OpSub, "*=": api.OpMul, "/=": api.OpDiv, "%=": api.OpRem,
		"<<=": api.OpShl, ">>=": api.OpShr, "&=": api.OpAnd, "^=": api.OpXor, "|=": api.OpOr} {
		c := api.Node{Kind: api.NodeName, At: 1 + len(sign), Name: "c"}
		expr("a"+sign+"c;", a, c, api.Node{Kind: api.NodeAssign, At: 1, Op: op, Kids: []int{0, 1}})
	}
	for sign, op := range binaryOps() {
		c := api.Node{Kind: api.NodeName, At: 1 + len(sign), Name: "c"}
		expr("a"+sign+"c;", a, c, api.Node{Kind: api.NodeBinary, At: 1, Op: op, Kids: []int{0, 1}})
	}
	expr("a&&c;", a, api.Node{Kind: api.NodeName, At: 3, Name: "c"}, api.Node{Kind: api.NodeAnd, At: 1, Kids: []int{0, 1}})
	expr("a||c;", a, api.Node{Kind: api.NodeName, At: 3, Name: "c"}, api.Node{Kind: api.NodeOr, At: 1, Kids: []int{0, 1}})
}

func binaryOps() map[string]int {
	return map[string]int{"+": api.OpAdd, "-": api.OpSub, "*": api.OpMul, "/": api.OpDiv, "%": api.OpRem, "<<": api.OpShl, ">>": api.OpShr,
		"&": api.OpAnd, "|": api.OpOr, "^": api.OpXor, "==": api.OpEq, "!=": api.OpNe, "<": api.OpLt, "<=": api.OpLe, ">": api.OpGt, ">=": api.OpGe}
}

// levels are the operators between two expressions, from the weakest to the strongest.
var levels = [][]string{{"||"}, {"&&"}, {"|"}, {"^"}, {"&"}, {"==", "!="}, {"<", "<=", ">", ">="}, {"<<", ">>"}, {"+", "-"}, {"*", "/", "%"}}

func TestStrengths(t *testing.T) {
	for i, weaker := range levels {
		for j, stronger := range levels {
			for _, w := range weaker {
				for _, s := range stronger {
					if i < j {
						same(t, "a"+w+"b"+s+"c;", "a"+w+"(b"+s+"c);")
					} else {
						same(t, "a"+w+"b"+s+"c;", "(a"+w+"b)"+s+"c;")
					}
					unlike(t, "(a"+w+"b)"+s+"c;", "a"+w+"(b"+s+"c);")
				}
			}
		}
	}
	for _, level := range levels {
		for _, o := range level {
			same(t, "a?b:c"+o+"d;", "a?b:(c"+o+"d);")
			same(t, "a"+o+"b?c:d;", "(a"+o+"b)?c:d;")
			same(t, "-a"+o+"!b;", "(-a)"+o+"(!b);")
			same(t, "a++"+o+" ++b;", "(a++)"+o+"(++b);")
			same(t, "a"+o+"b=c;", "(a"+o+"b)=c;")
			same(t, "a,b"+o+"c,d;", "(a,(b"+o+"c)),d;")
		}
	}
}

func TestBindings(t *testing.T) {
	same(t, "a=b+=c;", "a=(b+=c);")
	same(t, "a,b,c;", "(a,b),c;")
	same(t, "a=b,c;", "(a=b),c;")
	same(t, "a=b?c:d;", "a=(b?c:d);")
	same(t, "a?b:c=d;", "(a?b:c)=d;")
	same(t, "a?b,c:d;", "a?(b,c):d;")
	same(t, "a?b=c:d;", "a?(b=c):d;")
	same(t, "a?b?c:d:e;", "a?(b?c:d):e;")
	same(t, "- -a;", "-(-a);")
	same(t, "!~+-a--;", "!(~(+(-(a--))));")
	same(t, "++a++;", "++(a++);")
	same(t, "a++--;", "(a++)--;")
	same(t, "++--a;", "++(--a);")
	same(t, "f(a=b,(c,d));", "f((a=b),((c,d)));")
	same(t, "a[b,c];", "a[(b,c)];")
	same(t, "x=a[1]++;", "x=(a[1])++;")
	unlike(t, "if(a)if(b);else;", "if(a){if(b);}else;")
	unlike(t, "if(a)while(b)if(c);else;", "if(a){while(b)if(c);}else;")
	same(t, "f(a,b,c,d);", "f((a),(b),(c),(d));")
	same(t, "int x=a=1,y=b=2,z=c;", "int x=(a=1),y=(b=2),z=(c);")
	unlike(t, "f(a,b);", "f((a,b));")
	unlike(t, "f(a,b,c);", "f(a,(b,c));")
	unlike(t, "f(a,b,c);", "f((a,b),c);")
}

func TestWrongTokens(t *testing.T) {
	for src, at := range map[string]int{
		"int": 3, "int x": 5, "x": 0, ";": 0, "else": 0, "1": 0, "case": 0, "{}": 0, "if(1);": 0, "int int": 4, "int x y": 6, "int(": 3,
		"int x,;": 6, "int x,int y;": 6, "int a[];": 6, "int a[1": 7, "int a[1=2];": 7, "int a[1,2];": 7, "int a[1][2];": 8, "int a=;": 6,
		"int a=1,2;": 8, "int a,f(){}": 7, "int a=1(2);": 7, "enum{};": 5, "enum A{B};": 5, "enum{A,,};": 7, "enum{A=};": 7, "enum{A=1=2};": 8,
		"enum{A=1,2};": 9, "enum{A}": 7, "enum{A}x;": 7, "enum{if};": 5, "int f();": 7, "int f(){};": 9, "int f(": 6, "int f(a){}": 6, "int f(int){}": 9,
		"int f(int a,){}": 12, "int f(int a b){}": 12, "int f(int a[3]){}": 12, "int f(int a=1){}": 11, "int f(void,int a){}": 10, "int f(void": 10,
		"int f(void;": 10, "int f(void[]){}": 10, "int f(int a,void){}": 16, "int f(){}}": 9, "int f()int a;": 7, "int f(){": 8, "int f(,){}": 6,
		"x:;": 0, "int f(){} 1": 10, "unsigned int x;": 9, "void;": 4, "char": 4,
	} {
		refuses(t, src, at)
	}
	for statement, at := range map[string]int{
		"x:": 2, "x::": 2, "1:": 1, "a b;": 2, "1 2;": 2, "a[1](2);": 4, "a[1][2];": 4, "a()();": 3, "(a)[1];": 3, "(a)(1);": 3, "1[2];": 1,
		"a(;": 2, "a(b,);": 4, "a(b c);": 4, "a[];": 2, "a+;": 2, "a+*b;": 2, "*b;": 0, "&b;": 0, "a=;": 2, "a?b;": 3, "a?:b;": 2, "a?b:;": 4, "(;": 1, "();": 1, "(a;": 2, "a);": 1, ",a;": 0,
		"a,;": 2, "a+int;": 2, "a": 1, "if a;": 3, "if(a": 4, "if();": 3, "if(a)": 5, "if(a)else;": 5, "else;": 0, "if(a);else;else;": 11, "if(int a);": 3,
		"while();": 6, "while(a)": 8, "do;": 3, "do;while(a)": 11, "do while(a);": 12, "do;while a;": 9, "for(;;)": 7, "for(;);": 5, "for(;;;);": 6, "for();": 4,
		"for(a,int b;;);": 6, "for(int a);": 9, "for(;int a;);": 5, "for(a b;;);": 6, "for(if;;);": 4, "break": 5, "break 1;": 6, "continue a;": 9, "return": 6, "return 1 2;": 9,
		"return int;": 7, "goto;": 4, "goto 1;": 5, "goto a b;": 7, "goto if;": 5, "switch 1;": 7, "switch(1)": 9, "case:;": 4, "case 1;": 6, "case 1:": 7, "case 1,2:;": 6, "case a=1:;": 6, "case a?b:;": 9,
		"default;": 7, "default:": 8, "default 1:;": 8, "enum{A};": 0, "int f(){}": 5, "int x(1);": 5, "int;": 3, "int 1;": 4, "if(a)int;": 8, "a?b:c:;": 5, "{": 2,
	} {
		refuses(t, "int main(){"+statement+"}", 11+at)
	}
	for _, src := range []string{"int main(){l:int x;}", "int main(){if(1)int x;}", "int main(){case 1:int x;}", "int main(){1=2;++3;f()=4;}",
		"int main(){case a?b:c:;}", "int main(){do do;while(1);while(2);}", "int main(){for(int a[1]=2,b;a,b;c,d);}", "void f(void v,void w[]){void x;}"} {
		if _, at, e := parse.Parse(tokens(t, src)); e != api.OK || at != 0 {
			t.Errorf("P2.1: %q: %d at %d", src, e, at)
		}
	}
}

func TestWrongLists(t *testing.T) {
	semicolon := api.Token{Kind: api.TokSign, At: 5, Text: ";"}
	end := api.Token{Kind: api.TokEnd, At: 7}
	refusesTokens(t, nil, 0, api.ErrArg)
	refusesTokens(t, []api.Token{}, 0, api.ErrArg)
	refusesTokens(t, []api.Token{semicolon}, 0, api.ErrArg)
	refusesTokens(t, []api.Token{end, semicolon}, 0, api.ErrArg)
	refusesTokens(t, []api.Token{end, end}, 0, api.ErrArg)
	refusesTokens(t, []api.Token{semicolon, end, semicolon, end}, 0, api.ErrArg)
	refusesTokens(t, []api.Token{semicolon, end}, 5, api.ErrParseToken)
	takesList := []api.Token{{Kind: api.TokEnd, At: 9, Text: "x", Num: 3, Unsigned: true}}
	if tree, at, e := parse.Parse(takesList); e != api.OK || at != 0 || !sameNodes(tree.Nodes, []api.Node{{Kind: api.NodeFile}}) {
		t.Errorf("P2.1: the end alone: %v, %d, %d", tree, at, e)
	}
}

// TestStrangeTokens puts tokens that no lexer makes into the place of right ones.
func TestStrangeTokens(t *testing.T) {
	right := tokens(t, "int main(){if(1);return x+1;}")
	for i, old := range right[:len(right)-1] {
		for _, strange := range []api.Token{
			{Kind: 5, Text: old.Text}, {Kind: -1, Text: old.Text}, {Kind: 99, Text: old.Text}, {Kind: api.TokSign, Text: "@"}, {Kind: api.TokSign},
			{Kind: api.TokWord, Text: "while1"}, {Kind: api.TokWord}, {Kind: api.TokSign, Text: "int"}, {Kind: api.TokWord, Text: ";"},
			{Kind: api.TokSign, Text: "if"}, {Kind: api.TokWord, Text: "main"}, {Kind: api.TokSign, Text: "1"}, {Kind: api.TokWord, Text: "Int"},
		} {
			l := slices.Clone(right)
			strange.At = 1000 + i
			l[i] = strange
			refusesTokens(t, l, 1000+i, api.ErrParseToken)
		}
	}
	// What a name or a number says is its own affair.
	l := slices.Clone(right)
	l[1].Text, l[7].Num, l[11].Text = "if", 7, strings.Repeat("long", 100)
	tree, _, e := parse.Parse(l)
	if e != api.OK || tree.Nodes[0].Num != 7 || tree.Nodes[3].Name != l[11].Text || tree.Nodes[len(tree.Nodes)-2].Name != "if" {
		t.Errorf("P2.1: %v: %v, %d", l, tree, e)
	}
	// Places are taken as they are.
	l = slices.Clone(right)
	l[11].At, l[12].At = -5, 3
	if tree, _, e := parse.Parse(l); e != api.OK || tree.Nodes[3].At != -5 || tree.Nodes[5].At != 3 {
		t.Errorf("P2.1: %v: %v, %d", l, tree, e)
	}
}

// TestManyTokens goes to the greatest number of tokens, in as deep nests as there are.
func TestManyTokens(t *testing.T) {
	for _, nest := range []struct{ open, middle, close, tail string }{
		{"{", "", "}", ""}, {"(", "1", ")", ";"}, {"- ", "1", "", ";"}, {"++ ", "a", "", ";"}, {"", "a", "++", ";"}, {"l:", ";", "", ""},
		{"a[", "1", "]", ";"}, {"f(", "", ")", ";"}, {"f(1,", "2", ")", ";"}, {"a=", "1", "", ";"}, {"a<<=", "1", "", ";"}, {"1?", "2", ":3", ";"},
		{"1?2:", "3", "", ";"}, {"1+", "1", "", ";"}, {"1*2+", "1", "", ";"}, {"a&&b||", "1", "", ";"}, {"1,", "2", "", ";"}, {"if(1)", ";", "", ""},
		{"if(1);else ", ";", "", ""}, {"if(1)", ";", "else;", ""}, {"while(1)", ";", "", ""}, {"do ", ";", "while(1);", ""}, {"for(;;)", ";", "", ""},
		{"switch(1)", ";", "", ""}, {"case 1:", ";", "", ""}, {"default:", ";", "", ""}, {"", "", "int x,y;", ""}, {"", "", "a;", ""}, {"", "", ";", ""},
	} {
		around := len(tokens(t, "int main(){"+nest.middle+nest.tail+"}"))
		each := len(tokens(t, nest.open+nest.close)) - 1
		times := (4000 - around) / each
		src := "int main(){" + strings.Repeat(nest.open, times) + nest.middle + strings.Repeat(nest.close, times) + nest.tail + "}"
		l := tokens(t, src)
		tree, at, e := parse.Parse(l)
		if e != api.OK || at != 0 || len(tree.Nodes) > 2*len(l) {
			t.Errorf("P2.1, P2.2: %+v, %d times: %d nodes of %d tokens, %d at %d", nest, times, len(tree.Nodes), len(l), e, at)
		}
		l = slices.Delete(l, len(l)-2, len(l)-1)
		refusesTokens(t, l, l[len(l)-1].At, api.ErrParseToken)
	}
	l := tokens(t, "int main(){"+strings.Repeat(";", 3993)+"}")
	if tree, _, e := parse.Parse(l); len(l) != 4000 || e != api.OK || len(tree.Nodes) != 3996 {
		t.Errorf("P2.1: %d tokens: %d nodes, %d", len(l), len(tree.Nodes), e)
	}
	refusesTokens(t, slices.Insert(l, 6, api.Token{Kind: api.TokSign, Text: ";"}), 0, api.ErrArg)
}

// TestNewMemory wants that nothing is changed, and that no two lists of an answer share any memory (R5).
func TestNewMemory(t *testing.T) {
	l := tokens(t, "enum{A=1,B};int a[2],b=f(1,2,3);int f(int x,int y,char z[]){{;;;}for(;;)if(1);else{x,y;}return a?b:c[x=1];}")
	kept := slices.Clone(l)
	want, _, _ := parse.Parse(l)
	tree, _, _ := parse.Parse(l)
	if !slices.Equal(l, kept) {
		t.Fatal("R5: the tokens were changed")
	}
	for i := range tree.Nodes {
		kids := tree.Nodes[i].Kids
		for j := range kids[:cap(kids)] {
			kids[:cap(kids)][j] = -1
		}
		tree.Nodes[i].Kids = nil
		for j := i + 1; j < len(tree.Nodes); j++ {
			if !slices.Equal(tree.Nodes[j].Kids, want.Nodes[j].Kids) {
				t.Fatalf("R5: the kids of nodes %d and %d share memory", i, j)
			}
		}
	}
	again, _, _ := parse.Parse(l)
	if !sameNodes(again.Nodes, want.Nodes) {
		t.Error("R5: an answer hangs on what was done to another one")
	}
}

// TestNoTextIsKept wants names whose bytes are not those of what was handed in (R5).
func TestNoTextIsKept(t *testing.T) {
	const src = "enum{alpha};int beta;int gamma(int delta){epsilon:goto epsilon;zeta=eta[1]+theta();}"
	l := tokens(t, src)
	tree, _, _ := parse.Parse(l)
	names := 0
	for _, n := range tree.Nodes {
		for _, token := range l {
			if n.Name != "" && n.Name == token.Text {
				names++
				if unsafe.StringData(n.Name) == unsafe.StringData(token.Text) {
					t.Errorf("R5: the name %s is the token's own memory", n.Name)
				}
			}
		}
	}
	if names < 9 {
		t.Errorf("only %d names were looked at", names)
	}
}
