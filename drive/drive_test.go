package drive_test

import (
	"reflect"
	"strconv"
	"strings"
	"testing"

	"switchback/alloc"
	"switchback/api"
	"switchback/drive"
	"switchback/flow"
	"switchback/fold"
	"switchback/link"
	"switchback/sample"
	"switchback/switches"
	"switchback/tails"
	"switchback/thread"
)

// judged is a source's program.
func judged(t *testing.T, src string) api.Program {
	t.Helper()
	p, err := drive.Judge(src)
	if err != nil {
		t.Fatalf("%v: %.2000s", err, src)
	}
	return p
}

// passed are the modules that a source goes through.
func passed(t *testing.T, src string) []api.Module {
	t.Helper()
	l, err := drive.Passes(src)
	if err != nil || len(l) != 7 {
		t.Fatalf("%d modules, %v: %.2000s", len(l), err, src)
	}
	return l
}

// compiled is a source's image.
func compiled(t *testing.T, src string) api.Image {
	t.Helper()
	m, err := drive.Compile(src)
	if err != nil {
		t.Fatalf("%v: %.2000s", err, src)
	}
	return m
}

// refuses checks that a source is refused by all three, with nothing else told, and each time with a fault of its own.
func refuses(t *testing.T, stage int, code api.Errno, at int, src string) {
	t.Helper()
	p, first := drive.Judge(src)
	l, second := drive.Passes(src)
	m, third := drive.Compile(src)
	_, again := drive.Judge(src)
	if !reflect.DeepEqual(p, api.Program{}) || l != nil || !reflect.DeepEqual(m, api.Image{}) {
		t.Errorf("%.100q: something beside an error: %+v, %d modules, %+v", src, p, len(l), m)
	}
	want := drive.Fault{Stage: stage, Code: code, At: at}
	faults := map[*drive.Fault]int{}
	for _, err := range []error{first, second, third, again} {
		f, is := err.(*drive.Fault)
		if !is || *f != want {
			t.Errorf("%.100q: %v, want %v", src, err, &want)
		}
		faults[f]++
	}
	if len(faults) != 4 {
		t.Errorf("%.100q: two answers have one fault", src)
	}
}

func TestExamples(t *testing.T) {
	compiled(t, "int main(){return 1;}")
	for src, want := range map[string]string{"@": "text 14 0", "int": "tree 20 3", "int f(){return 0;}": "sense 39 0"} {
		if _, err := drive.Compile(src); err == nil || err.Error() != want {
			t.Errorf("%q: %v, want %s", src, err, want)
		}
	}
}

// TestWrongTexts has each error of lex; what stands behind it may be wrong, too.
func TestWrongTexts(t *testing.T) {
	refuses(t, 1, api.ErrLexByte, 0, "@")
	refuses(t, 1, api.ErrLong, 0, "int main(){return 1;}"+strings.Repeat(" ", 19980))
	refuses(t, 1, api.ErrLexName, 4, "int "+strings.Repeat("a", 32)+";")
	refuses(t, 1, api.ErrLexNumber, 18, "int main(){return 08;}")
	refuses(t, 1, api.ErrLexChar, 18, "int main(){return '';}")
	refuses(t, 1, api.ErrLexComment, 22, "int main(){return 1;} /*")
	refuses(t, 1, api.ErrLexByte, 15, "break case int #")
	refuses(t, 1, api.ErrLexMany, 3999, strings.Repeat(";", 4000))
}

// TestWrongTrees has tokens that stand where none of them can; what stands ahead makes no sense, either.
func TestWrongTrees(t *testing.T) {
	refuses(t, 2, api.ErrParseToken, 3, "int")
	refuses(t, 2, api.ErrParseToken, 0, ";")
	refuses(t, 2, api.ErrParseToken, 0, "break case int")
	refuses(t, 2, api.ErrParseToken, 10, "int main()")
	refuses(t, 2, api.ErrParseToken, 13, "int main(){x:}")
	refuses(t, 2, api.ErrParseToken, 23, "int main(){return y;}  )")
}

// TestWrongSense has each error of check.
func TestWrongSense(t *testing.T) {
	refuses(t, 3, api.ErrCheckMain, 0, "")
	refuses(t, 3, api.ErrCheckMain, 0, "int f(){return 0;}")
	refuses(t, 3, api.ErrCheckMain, 7, "int x; int main(int a){}")
	refuses(t, 3, api.ErrCheckCase, 11, "int main(){case 1: return 0;}")
	refuses(t, 3, api.ErrCheckLabel, 11, "int main(){goto x;}")
	refuses(t, 3, api.ErrCheckTwice, 11, "int main(){x: x: return 0;}")
	refuses(t, 3, api.ErrCheckTwice, 21, "int main(){switch(1){case 1: case 1+0: ;} return 0;}")
	refuses(t, 3, api.ErrCheckNone, 18, "int main(){return x;}")
	refuses(t, 3, api.ErrCheckKind, 27, "int a[2];int main(){return a;}")
	refuses(t, 3, api.ErrCheckCall, 58, "int f(int a[]){return a[0];}char b[2];int main(){return f(b);}")
	refuses(t, 3, api.ErrCheckLeft, 11, "int main(){1=2;}")
	refuses(t, 3, api.ErrCheckConst, 6, "int a[0];int main(){}")
	refuses(t, 3, api.ErrCheckReturn, 11, "int main(){return;}")
	refuses(t, 3, api.ErrCheckMany, len(numbered(60, "int f#(){}")), numbered(61, "int f#(){}")+"int main(){}")
	refuses(t, 3, api.ErrCheckBreak, 11, "int main(){break;}")
	refuses(t, 3, api.ErrCheckDefault, 21, "int main(){switch(1){default:default:;}}")
}

// numbered repeats a piece with numbers in the place of #.
func numbered(n int, piece string) string {
	var b strings.Builder
	for i := range n {
		b.WriteString(strings.ReplaceAll(piece, "#", strconv.Itoa(i)))
	}
	return b.String()
}

// TestJudge: the program is just the one that the layers make.
func TestJudge(t *testing.T) {
	for _, src := range []string{"int main(){}", "int g=3;char a[2];unsigned f(int x,char y[]){return x;}int main(){switch(g){case 1:l:default:goto l;}return f(1,a);}", sample.Program(1), sample.Program(2)} {
		want, wrong := sample.Read(src)
		if p := judged(t, src); wrong != "" || !reflect.DeepEqual(p, want) {
			t.Errorf("%s: %+v", src, p)
		}
	}
}

// TestPasses: each module is the one that its pass makes of the module ahead.
func TestPasses(t *testing.T) {
	passes := []func(api.Module) (api.Module, api.Errno){fold.Fold, thread.Thread, tails.Merge, switches.Lower, thread.Thread, alloc.Alloc}
	for i := range uint64(200) {
		src := sample.Program(i)
		l := passed(t, src)
		m, _ := flow.Lower(judged(t, src))
		for k := range l {
			if !reflect.DeepEqual(m, l[k]) {
				t.Fatalf("%d: the module %d: %+v\nwant %+v", i, k, l[k], m)
			}
			if k < len(passes) {
				m, _ = passes[k](m)
			}
		}
		want, _ := link.Link(l[6])
		if got := compiled(t, src); !reflect.DeepEqual(got, want) {
			t.Fatalf("%d: another image: %+v", i, got)
		}
	}
}

// TestMemoryOfItsOwn: no two lists of what is answered share memory, nor do those of two answers.
func TestMemoryOfItsOwn(t *testing.T) {
	for i := range uint64(50) {
		src := sample.Program(i)
		if l := append(passed(t, src), passed(t, src)...); sample.Shared(l...) {
			t.Fatalf("%d: modules share memory", i)
		}
		a, b := compiled(t, src), compiled(t, src)
		if !sample.Apart(a.Words, b.Words, a.Data, b.Data) || !sample.Apart(a.Kinds, b.Kinds) {
			t.Fatalf("%d: images share memory", i)
		}
		p, q := judged(t, src), judged(t, src)
		if !sample.Apart(p.Nodes, q.Nodes) || !sample.Apart(p.Funcs, q.Funcs) || !sample.Apart(varsOf(p, q)...) || !sample.Apart(kidsOf(p, q)...) {
			t.Fatalf("%d: programs share memory", i)
		}
	}
}

// varsOf are all lists of variables of some programs.
func varsOf(programs ...api.Program) [][]api.Var {
	var all [][]api.Var
	for _, p := range programs {
		all = append(all, p.Globals)
		for _, f := range p.Funcs {
			all = append(all, f.Vars)
		}
	}
	return all
}

// kidsOf are all lists of kids of some programs.
func kidsOf(programs ...api.Program) [][]int {
	var all [][]int
	for _, p := range programs {
		for _, n := range p.Nodes {
			all = append(all, n.Kids)
		}
	}
	return all
}

// TestAskedTwice: the same source has the same answers.
func TestAskedTwice(t *testing.T) {
	for i := range uint64(50) {
		src := sample.Program(i)
		if !reflect.DeepEqual(judged(t, src), judged(t, src)) || !reflect.DeepEqual(passed(t, src), passed(t, src)) || !reflect.DeepEqual(compiled(t, src), compiled(t, src)) {
			t.Fatalf("%d: another answer", i)
		}
	}
}
