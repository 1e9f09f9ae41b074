package flow_test

import (
	"strings"
	"testing"

	"switchback/api"
	"switchback/sample"
)

func TestWhereControlGoes(t *testing.T) {
	for _, x := range sample.Control() {
		ends(t, api.StopExit, 0, x.Output, x.Source)
	}
}

func TestWhatDecides(t *testing.T) {
	t.Parallel()
	for _, c := range []string{
		"x", "!x", "!!x", "x&&y", "x||y", "!(x&&y)", "!(x||!y)", "x&&y||z", "x&&(y||z)", "x?y:z", "!(x?y:!z)", "(putc('c'),x)", "x==y", "x!=y", "x<y", "x<=y", "x>y", "x>=y", "!(x<y)", "x-1", "x=y", "x++", "--x", "x&y", "1", "0", "-x", "+x", "a[x]", "f(x)", "u<x", "u>=x", "x>u", "x<=u", "x<-1", "u<-1", "(x&&y)==z", "(x||y)+z", "getc()&1",
	} {
		for _, s := range []string{"if(C)putc('y');else putc('n');", "if(C)putc('y');", "while(C){putc('w');if(i++>2)break;}", "do{putc('d');if(i++>2)break;}while(C);", "for(;C;){putc('f');if(i++>2)break;}", "putc('0'+(C));", "putc('0'+((C)?3:4));", "putc((C)&&z?'t':'f');", "putc((C)||z?'t':'f');", "switch(C){case 0:putc('0');break;case 1:putc('1');default:putc('d');}", "C;", "i=C;putc(i);", "return C;"} {
			src := "int f(int x){return x*2;}int main(){int i,x=X,y=Y,z=Z;unsigned u=Y-1;int a[3];a[1]=2;" + strings.ReplaceAll(s, "C", c) + "putc('e');putc(x);putc(y);return 0;}"
			for bits := range 8 {
				holds(t, strings.NewReplacer("X", digit(bits&1), "Y", digit(bits>>1&1), "Z", digit(bits>>2)).Replace(src), "input")
			}
		}
	}
}

func digit(n int) string {
	return string(rune('0' + n))
}

// TestSteps has programs in which the module takes many steps for one of the program, or the program many for one of the module.
func TestSteps(t *testing.T) {
	t.Parallel()
	nest := func(n int, open, close string) string {
		return "int main(){int i;again:if(i++<40)goto in;return i;" + strings.Repeat(open, n) + "in:;" + strings.Repeat(close, n) + "goto again;}"
	}
	for _, n := range []int{1, 10, 300} {
		holds(t, nest(n, "if(1)", ""), "")
		holds(t, nest(n, "if(1){", "}else;"), "")
		holds(t, nest(n, "while(0)", ""), "")
		holds(t, nest(n, "do{", "}while(0);"), "")
		holds(t, nest(n, "for(;0;){", "}"), "")
		holds(t, nest(n, "switch(1){", "}"), "")
		holds(t, "int main(){int i;for(;i<40;i++){"+strings.Repeat("{;1;-i;+i;}", n)+"}return i;}", "")
		holds(t, "int main(){int i;for(;i<40;i++){i"+strings.Repeat(",1,i", n)+";}return i;}", "")
		holds(t, "int main(){int i;for(;i<40;i++)"+strings.Repeat("{", n)+strings.Repeat("}", n)+"return i;}", "")
		holds(t, "int main(){int i;return "+strings.Repeat("!", n)+"i;}", "")
		holds(t, "int main(){int i;return "+strings.Repeat("- ", n)+"i;}", "")
		holds(t, "int main(){int i;if("+strings.Repeat("!", n)+"i)return 1;}", "")
	}
	holds(t, "int main(){l:goto l;}", "")
	holds(t, "int main(){l:;;;;goto l;}", "")
	holds(t, "int main(){do;while(1);}", "")
	holds(t, "int main(){while(1)continue;}", "")
	holds(t, "int f(char a,char b,char c,char d,char e,char f,char g,char h){}int i;int main(){while(i++<300)f(i,i,i,i,i,i,i,i);}", "")
	holds(t, "char f(){return 300;}int main(){int i;while(i++<300)f();}", "")
}
