package check_test

import (
	"math/rand"
	"reflect"
	"strings"
	"testing"
	"unsafe"

	"switchback/api"
	"switchback/check"
	"switchback/lex"
	"switchback/parse"
	"switchback/sample"
)

// agrees holds check against the second way to check.
func agrees(t *testing.T, tree api.Tree, src string) api.Errno {
	t.Helper()
	p, at, e := check.Check(tree)
	q, qat, qe := read(tree)
	if e != qe || at != qat {
		t.Fatalf("%d at %d, the reading says %d at %d:\n%s", e, at, qe, qat, src)
	}
	if !reflect.DeepEqual(plain(p), plain(q)) {
		t.Fatalf("%+v\nthe reading says\n%+v\n%s", p, q, src)
	}
	return e
}

// plain makes empty lists nil.
func plain(p api.Program) api.Program {
	p.Nodes = append([]api.Node(nil), p.Nodes...)
	for i := range p.Nodes {
		p.Nodes[i].Kids = append([]int(nil), p.Nodes[i].Kids...)
	}
	p.Globals = append([]api.Var(nil), p.Globals...)
	p.Funcs = append([]api.Func(nil), p.Funcs...)
	for i := range p.Funcs {
		f := &p.Funcs[i]
		f.Vars = append([]api.Var(nil), f.Vars...)
		f.Switches = append([]api.Switch(nil), f.Switches...)
		for k := range f.Switches {
			f.Switches[k].Cases = append([]api.Choice(nil), f.Switches[k].Cases...)
		}
	}
	return p
}

func TestSamplesAgree(t *testing.T) {
	for i := range uint64(400) {
		src := sample.Program(i)
		tree := treeOf(t, src)
		if e := agrees(t, tree, src); e != api.OK {
			t.Fatalf("%d: %s", e, src)
		}
		follows(t, tree)
	}
}

// follows is P3.3.
func follows(t *testing.T, tree api.Tree) {
	t.Helper()
	p, _, _ := check.Check(tree)
	if len(p.Nodes) != len(tree.Nodes) {
		t.Fatalf("%d nodes of %d", len(p.Nodes), len(tree.Nodes))
	}
	first := 0
	for _, f := range p.Funcs {
		nodes := make([]int, f.Targets)
		for _, n := range p.Nodes[first:f.Body] {
			switch n.Kind {
			case api.NodeLabel, api.NodeCase, api.NodeDefault:
				nodes[n.Own]++
			}
		}
		for target, n := range nodes {
			if n != 1 {
				t.Fatalf("%d nodes of the target %d", n, target)
			}
		}
		for _, s := range f.Switches {
			values := map[uint32]int{}
			for _, c := range s.Cases {
				values[c.Num]++
			}
			if len(values) != len(s.Cases) {
				t.Fatalf("cases: %v", s.Cases)
			}
		}
		first = f.Body
	}
}

// tokensOf is a source as pieces that may be changed one by one.
func tokensOf(t *testing.T, src string) []string {
	l, _, e := lex.Lex(src)
	if e != api.OK {
		t.Fatal(src)
	}
	var pieces []string
	for i, token := range l[:len(l)-1] {
		pieces = append(pieces, strings.TrimSpace(src[token.At:l[i+1].At]))
	}
	return pieces
}

// sortOf tells tokens apart that may stand in one another's place.
func sortOf(piece string) string {
	switch c := piece[0]; {
	case strings.Contains(" int unsigned char void ", " "+piece+" "):
		return "type"
	case strings.Contains(" break continue ", " "+piece+" "):
		return "leave"
	case c >= '0' && c <= '9' || c == '\'':
		return "number"
	case c == '_' || c >= 'a' && c <= 'z' || c >= 'A' && c <= 'Z':
		return "name"
	}
	return piece
}

// disturbed is a program with a few tokens changed for others of their sort, or with something laid in between.
func disturbed(r *rand.Rand, pieces []string) string {
	l := append([]string(nil), pieces...)
	odd := map[string][]string{"type": {"void", "int", "unsigned", "char"}, "leave": {"break", "continue"}, "number": {"0", "1001", "600", "1u"}, "name": {"getc", "zz", "f1", "b0", "g0", "p0", "E0", "l0", "v0", "v1", "putc", "main"}}
	between := []string{"break;", "continue;", "return;", "return 1;", "default:;", "case 1:;", "case 2:;", "l0:;", "l1:;", "goto zz;", "int v1;", "int v2[600];", "exit(1);", "getc(1);", "goto l2;", "void v3;", "g0=b0;"}
	for range 1 + r.Intn(3) {
		i := r.Intn(len(l))
		others := odd[sortOf(l[i])]
		switch {
		case l[i] == ";" || l[i] == "{" || l[i] == "}":
			l[i] += between[r.Intn(len(between))]
		case len(others) > 0 && r.Intn(2) == 0:
			l[i] = others[r.Intn(len(others))]
		default:
			if k := r.Intn(len(l)); sortOf(l[i]) == sortOf(l[k]) {
				l[i], l[k] = l[k], l[i]
			}
		}
	}
	return strings.Join(l, " ")
}

func TestDisturbedSamplesAgree(t *testing.T) {
	r := rand.New(rand.NewSource(1))
	errors := map[api.Errno]int{}
	for i := range uint64(250) {
		pieces := tokensOf(t, sample.Program(i+1000))
		for range 20 {
			src := disturbed(r, pieces)
			l, _, e := lex.Lex(src)
			if e != api.OK {
				continue
			}
			tree, _, e := parse.Parse(l)
			if e != api.OK {
				continue
			}
			errors[agrees(t, tree, src)]++
		}
	}
	t.Log(errors)
	enough(t, errors, 3)
}

// enough tells whether all errors came about so often.
func enough(t *testing.T, errors map[api.Errno]int, times int) {
	for e := api.ErrCheckTwice; e <= api.ErrCheckDefault; e++ {
		if e != api.ErrCheckMany && errors[e] < times {
			t.Errorf("the error %d came about %d times", e, errors[e])
		}
	}
}

// loose writes programs that the grammar allows, with names that are declared in many ways.
type loose struct {
	*rand.Rand
	strings.Builder
}

func (l *loose) put(pieces ...string) {
	l.WriteString(pieces[l.Intn(len(pieces))])
	l.WriteByte(' ')
}

// mostly puts the first piece, and rarely one of the others.
func (l *loose) mostly(first string, others ...string) {
	if l.Intn(12) == 0 {
		l.put(others...)
	} else {
		l.put(first)
	}
}

func (l *loose) name() {
	l.mostly([]string{"i", "u", "x", "y", "E", "n"}[l.Intn(6)], "a", "c", "f", "g", "v", "w", "putc", "zz")
}

func (l *loose) expr(depth int) {
	if depth == 0 {
		if l.Intn(2) == 0 {
			l.put("1", "2u", "0", "3")
		} else {
			l.name()
		}
		return
	}
	l.put("(")
	switch l.Intn(12) {
	case 0:
		l.put("-", "!", "~", "++", "--")
		l.expr(depth - 1)
	case 1:
		l.expr(depth - 1)
		l.put("++", "--")
	case 2:
		l.expr(depth - 1)
		l.put("?")
		l.expr(depth - 1)
		l.put(":")
		l.expr(depth - 1)
	case 3:
		l.mostly([]string{"a", "c"}[l.Intn(2)], "i", "x", "f", "zz")
		l.put("[")
		l.expr(depth - 1)
		l.put("]")
	case 4, 5:
		l.call(depth - 1)
	case 6:
		l.mostly([]string{"i", "u", "x", "a[1]", "c[i]"}[l.Intn(5)], "E", "f", "a", "1", "++i")
		l.put("=", "+=", "<<=")
		l.expr(depth - 1)
	default:
		l.expr(depth - 1)
		l.mostly([]string{"+", "/", "%", "<<", ">>", "<", "==", "&&", "||", ",", "&"}[l.Intn(11)], "=", "*=")
		l.expr(depth - 1)
	}
	l.put(")")
}

func (l *loose) call(depth int) {
	switch l.Intn(8) {
	case 0:
		l.put("getc()", "exit(i)", "putc(x)", "v()", "w(x,c)", "g(a,i)", "f(x)")
	case 1:
		l.put("f(", "putc(")
		l.expr(depth)
		l.put(")")
	case 2:
		l.put("g(")
		l.mostly("a", "c", "x", "zz", "E", "f", "i")
		l.put(",")
		l.expr(depth)
		l.put(")")
	case 3:
		l.mostly("f", "g", "v", "w", "getc", "exit", "i", "x", "zz")
		l.put("(")
		l.put("", "x", "x", "a", "x,c", "i,1", "v()", "w(1,c)", "(i,v())")
		l.put(")")
	default:
		l.put("f(x)", "g(a,1)", "getc()", "f(E)")
	}
}

func (l *loose) statement(depth int) {
	if depth == 0 {
		l.expr(l.Intn(2))
		l.put(";")
		return
	}
	switch l.Intn(18) {
	case 0, 1:
		l.put("if(", "while(", "switch(")
		l.expr(l.Intn(2))
		l.put(")")
		l.statement(depth - 1)
	case 2:
		l.put("do")
		l.statement(depth - 1)
		l.put("while(")
		l.expr(l.Intn(2))
		l.put(");")
	case 3:
		l.put("for(;", "for(int x;", "for(int x,y=x;", "for(x;", "for(char i=v();")
		l.put("", "x", "f(1)", "v()")
		l.put(";")
		l.put("", "x", "v()")
		l.put(")")
		l.statement(depth - 1)
	case 4, 5, 6:
		l.put("switch(i){case 1:;", "switch(u){default:;", "switch(x){case E:;", "while(x){", "{", "{int x;", "{char y;")
		for range l.Intn(5) {
			l.statement(depth - 1)
		}
		l.put("}")
	case 7, 8:
		l.put("case 0:", "case 1:", "case 2:", "case E+1:", "case x:", "case 1/0:", "default:", "default:", "l:", "m:", "x:")
		l.statement(depth - 1)
	case 9:
		l.put("break;", "continue;", "goto l;", "goto m;", "return;", "return 1;", "return v();", "return i;", "{}")
	case 10, 11:
		l.mostly([]string{"int", "char", "unsigned"}[l.Intn(3)], "void")
		l.put("x", "y", "i", "f", "s", "t")
		l.mostly([]string{"", "[E]", "[2]", "=1", "=x", "=f(1)"}[l.Intn(6)], "[x]", "=v()", "[1]=2", "[0]", "[1001]", "[600]")
		l.put(";")
	default:
		l.expr(l.Intn(3))
		l.put(";")
	}
}

func (l *loose) program() string {
	l.mostly("enum{E=1,n};", "enum{E=1,n};", "enum{n,E};", "enum{E=n,n};", "enum{E=2-1,n,E};", "enum{E,n=E};", "")
	l.mostly("int i=E;unsigned u;", "int i;unsigned u=1;", "int i,u=1;", "char i=x;", "void i;", "int u,i=-u;")
	l.mostly("int a[2];char c[3];", "int a[E];char c[E+1];", "char a[2],c[2];", "unsigned a[2],c[E*2];")
	l.mostly("int f(int x){return x;}", "char f(int a[]){return a[0];}", "unsigned f(char y){return y;}", "int f(int x,char x){}", "int f(void y){}")
	l.mostly("int g(int y[],int x){return y[x];}", "unsigned g(char x){return x>>1;}", "int g(){return;}")
	l.mostly("void v(){}", "void v(void){return;}", "void v(int x[]){x[0]=1;}")
	l.mostly("int main(){int x,y;", "int main(){int x;", "int main(){char y;unsigned x;", "int main(){", "void main(){int x,y;", "int main(int x){int y;")
	for range 1 + l.Intn(5) {
		l.statement(3)
	}
	l.put("l:m:;}", "l:m:;}", "}", "l:;}")
	l.mostly("void w(int x,char y[]){}", "int w(){return f(1);}", "char w(int z){return z;}")
	return l.String()
}

func TestLoosePrograms(t *testing.T) {
	errors := map[api.Errno]int{}
	r := rand.New(rand.NewSource(2))
	for range 60000 {
		l := loose{Rand: r}
		src := l.program()
		errors[agrees(t, treeOf(t, src), src)]++
	}
	t.Log(errors)
	enough(t, errors, 20)
}

func TestNothingIsChangedOrKept(t *testing.T) {
	for i := range uint64(50) {
		src := sample.Program(i + 5000)
		tree, again := treeOf(t, src), treeOf(t, src)
		p, _, _ := check.Check(tree)
		if !reflect.DeepEqual(tree, again) {
			t.Fatal("the tree is changed")
		}
		q, _, _ := check.Check(tree)
		if !reflect.DeepEqual(p, q) {
			t.Fatal("a second answer is another one")
		}
		for i := range p.Nodes {
			n, of := &p.Nodes[i], &tree.Nodes[i]
			if n.Name != "" && unsafe.StringData(n.Name) == unsafe.StringData(of.Name) {
				t.Fatal("a name is kept")
			}
			for k := range n.Kids {
				n.Kids[k] = -1
			}
		}
		spoil(p)
		if !reflect.DeepEqual(tree, again) {
			t.Fatal("the tree shares its lists")
		}
		if s, _, _ := check.Check(tree); !reflect.DeepEqual(s, q) {
			t.Fatal("a third answer is another one")
		}
	}
}

// spoil fills the spare room of a program's lists.
func spoil(p api.Program) {
	for i := range p.Nodes {
		l := p.Nodes[i].Kids
		for k := range l[:cap(l)] {
			l[:cap(l)][k] = -1
		}
	}
	_ = append(p.Nodes, api.Node{Kind: -1})
	_ = append(p.Globals, api.Var{Size: -7})
	for _, f := range p.Funcs {
		_ = append(f.Vars, api.Var{Size: -7})
		_ = append(f.Switches, api.Switch{Default: -7})
		for _, s := range f.Switches {
			_ = append(s.Cases, api.Choice{Target: -7})
		}
	}
}

func TestNoTwoListsShare(t *testing.T) {
	for i := range uint64(50) {
		p := programOf(t, sample.Program(i+6000))
		want := plain(p)
		spoilOneByOne(t, p, want)
	}
}

// spoilOneByOne adds to each list: no other one may see it.
func spoilOneByOne(t *testing.T, p, want api.Program) {
	t.Helper()
	for i := range p.Nodes {
		_ = append(p.Nodes[i].Kids, -1, -1, -1)
	}
	for _, f := range p.Funcs {
		_ = append(f.Vars, api.Var{Size: -7})
		_ = append(f.Switches, api.Switch{Default: -7})
		for _, s := range f.Switches {
			_ = append(s.Cases, api.Choice{Target: -7})
		}
	}
	if !reflect.DeepEqual(plain(p), want) {
		t.Fatal("lists share what they stand in")
	}
}
