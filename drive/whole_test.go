package drive_test

import (
	"math/bits"
	"strings"
	"testing"

	"switchback/api"
	"switchback/drive"
	"switchback/emu"
	"switchback/model"
	"switchback/run"
	"switchback/sample"
)

// means checks that a source's program, its modules and its image mean the same: each module as its pass may change it, the image as chapter 23 says.
func means(t *testing.T, src string, fuel int, inputs ...string) {
	t.Helper()
	p, l, image := judged(t, src), passed(t, src), compiled(t, src)
	b := bits.Len(uint(greatest(l[3])))
	within := []int{1, 1, 2, 2*b + 8, 1, 1}
	for _, input := range inputs {
		if s := sample.UnlikeLowered(p, l[0], input, fuel); s != "" {
			t.Fatalf("%q, the first module: %s\n%.3000s", input, s, src)
		}
		for k, times := range within {
			if s := sample.Unlike(l[k], l[k+1], input, fuel, func(n int) int { return times * n }); s != "" {
				t.Fatalf("%q, the module %d: %s\n%.3000s", input, k+1, s, src)
			}
		}
		if s := sample.UnlikeProgram(p, image, input, fuel); s != "" {
			t.Fatalf("%q, the image: %s\n%.3000s", input, s, src)
		}
	}
}

// greatest is how many cases a switch of a module has at most.
func greatest(m api.Module) int {
	n := 0
	for _, g := range m.Funcs {
		for _, b := range g.Blocks {
			n = max(n, len(b.End.Cases))
		}
	}
	return n
}

// ends checks that a source's program, its modules and its image end so on the input `input`, and mean the same on any.
func ends(t *testing.T, stop int, code uint32, output, src string) {
	t.Helper()
	means(t, src, 100000, "input", "", "\x00\xff")
	want := api.Outcome{Stop: stop, Code: code, Output: output}
	is := func(what string, o api.Outcome) {
		o.Steps = 0
		if o != want {
			t.Errorf("%s: %+v, want %+v: %s", what, o, want, src)
		}
	}
	a, _ := model.Run(judged(t, src), "input", 10000)
	is("the program", a)
	for _, m := range passed(t, src) {
		b, _ := run.Run(m, "input", 10000)
		is("a module", b)
	}
	c, _ := emu.Run(compiled(t, src), "input", 100000)
	is("the image", c)
}

// TestExamplesOfTheWhole has those of the document.
func TestExamplesOfTheWhole(t *testing.T) {
	for _, x := range sample.Examples() {
		ends(t, x.Stop, x.Code, x.Output, x.Source)
	}
}

// TestControl has control go wherever C lets it.
func TestControl(t *testing.T) {
	for _, s := range sample.Control() {
		ends(t, api.StopExit, 0, s.Output, s.Source)
	}
}

// TestDevices has sources that do something one might want done.
func TestDevices(t *testing.T) {
	ends(t, api.StopExit, 5, "tupni", "char a[100];int main(){int n,c;while((c=getc())!=-1)a[n++]=c;for(c=n;c;)putc(a[--c]);return n;}")
	ends(t, api.StopExit, 0, "2 3 5 7 11 13 17 19 23 29 ", "char no[30];void say(int n){if(n/10)say(n/10);putc('0'+n%10);}int main(){for(int i=2;i<30;i++){if(no[i])continue;say(i);putc(' ');for(int k=i*i;k<30;k+=i)no[k]=1;}return 0;}")
	ends(t, api.StopExit, 144, "", "int fib(int n){return n<2?n:fib(n-1)+fib(n-2);}int main(){return fib(12);}")
	ends(t, api.StopExit, 0, "inptu", "char a[5];void sort(char a[],int n){int i,k,x;for(i=1;i<n;i++){x=a[i];for(k=i;k>0&&a[k-1]>x;k--)a[k]=a[k-1];a[k]=x;}}int main(){int i;for(;i<5;i++)a[i]=getc();sort(a,5);for(i=0;i<5;i++)putc(a[i]);return 0;}")
	ends(t, api.StopExit, 0, "iinput", "void copy(char to[],char from[],int n){int i=0,k=(n+7)/8;if(!n)return;switch(n%8){case 0:do{to[i]=from[i];i++;case 7:to[i]=from[i];i++;case 6:to[i]=from[i];i++;case 5:to[i]=from[i];i++;case 4:to[i]=from[i];i++;case 3:to[i]=from[i];i++;case 2:to[i]=from[i];i++;case 1:to[i]=from[i];i++;}while(--k>0);}}char a[20],b[20];int main(){int n,c;while((c=getc())!=-1){a[n]=c;n+=1;}copy(b,a,n);putc(b[0]);for(c=0;c<n;c++)putc(b[c]);return b[n];}")
	ends(t, api.StopExit, 4, "abc", "enum{START,WORD=2,STOP};int next(int s){switch(s){default:return START;case START:putc('a');return WORD;case WORD:putc('b');return STOP;case STOP:putc('c');}return 9;}int main(){int s=START,n;again:n++;if(s!=9){s=next(s);goto again;}return n;}")
}

// great are sources of about as many tokens, variables, targets, functions as there may be.
func great() []string {
	rep := strings.Repeat
	return []string{
		"int main(){return " + rep("!", 3990) + "1;}",
		"int g;int main(){switch(" + rep("!", 3985) + "g);}",
		"char c=3;int main(){return " + rep("c+=", 1990) + "1;}",
		"char c;int main(){" + rep("c++;", 1320) + "return c;}",
		"int g;int main(){return g" + rep("&&g", 1990) + ";}",
		"int g;int main(){return " + rep("g?g:", 990) + "g;}",
		"int main(){int x;return " + rep("x+(", 990) + "x++" + rep(")", 990) + ";}",
		"int a[1];int main(){return " + rep("a[", 1320) + "0" + rep("]", 1320) + ";}",
		"int f(int x){return x;}int main(){return " + rep("f(", 1300) + "0" + rep(")", 1300) + ";}",
		"int g;int main(){return " + rep("g+(g&&", 660) + "g" + rep(")", 660) + ";}",
		"int main(){int x;" + rep("while(x++<9){", 200) + "x++;" + rep("}", 200) + "return x;}",
		"int main(){int n=-1,s;for(;n<301;n++)switch(n){" + numbered(299, "case #:s+=#;") + "default:s++;}return s;}",
		"int main(){int n=-1,s;for(;n<301;n++)switch(n*70000){" + numbered(299, "case #*70000:s+=#;") + "default:s++;}return s;}",
		"int main(){int n;" + numbered(300, "l#:if(n++==#)goto l#;") + "return n;}",
		"int g;" + numbered(59, "int f#(){return g++;}") + "int main(){return f0()+f58();}",
		numbered(200, "int g#[2];") + "int main(){" + numbered(200, "int l#[2];") + numbered(200, "g#[1]=1;") + "l7[1]=4;return g199[1]+l7[1];}",
		numbered(200, "char g#=#;") + "int main(){" + numbered(200, "char l#=g#;") + "return l199+l0+g7;}",
		"int f(int a,int b,int c,int d,int e,int f,int g,int h){int x[992];x[0]=a;x[991]=h;return x[0]+b+x[990];}int a[1000];int main(){return f(1,2,3,4,5,6,7,8)+a[999];}",
		"int f(int n,char a[],int b[]){int w[900];w[n]=n;if(n<48)return f(n+1,a,w)+w[n]+a[1];return w[n]+b[n-1];}char a[3];int b[3];int main(){a[1]=2;return f(0,a,b);}",
		"int a[1000]" + numbered(9, ",a#[1000]") + ";int main(){for(int i;i<1000;i++)a[i]=a8[999-i]=i;return a[7]+a8[7];}",
	}
}

func TestGreatSources(t *testing.T) {
	t.Parallel()
	for _, src := range great() {
		means(t, src, 100000, "")
	}
}

// TestAnyFuels: whatever fuels two runs have, what the one puts out is a beginning of what the other puts out.
func TestAnyFuels(t *testing.T) {
	for _, src := range []string{
		"int main(){int n;for(;;){putc(n++);if(n%3)putc(getc());}}",
		"int f(int n){putc(n);if(n<30)f(n+1);putc('a'+n);return n;}int main(){for(;;)f(0);}",
		"int main(){int c;do{c=getc();putc(c);switch(c){case 'n':case 'p':putc('!');}}while(c!=-1);return 1/0;}",
	} {
		p, image := judged(t, src), compiled(t, src)
		var said []string
		for _, fuel := range []int{0, 1, 2, 3, 5, 9, 14, 20, 50, 100, 333, 1000, 5000} {
			a, _ := model.Run(p, "input", fuel)
			b, _ := emu.Run(image, "input", fuel)
			said = append(said, a.Output, b.Output)
		}
		for _, a := range said {
			for _, b := range said {
				if !strings.HasPrefix(a, b) && !strings.HasPrefix(b, a) {
					t.Errorf("%q, %q: %s", a, b, src)
				}
			}
		}
	}
}

// TestWhatIsTaken: a source of as many bytes as there may be, and one of as many tokens, have an image; one byte or one token more, and they have none.
func TestWhatIsTaken(t *testing.T) {
	src := "int main(){return 1;}"
	full := src + strings.Repeat(" ", api.MaxSource-len(src))
	ends(t, api.StopExit, 1, "", full)
	refuses(t, 1, api.ErrLong, 0, full+" ")
	many := "int main(){return 1" + strings.Repeat(";", api.MaxTokens-9) + "}"
	ends(t, api.StopExit, 1, "", many)
	if _, err := drive.Compile(strings.Replace(many, "}", ";}", 1)); err == nil || err.Error() != "text 15 4011" {
		t.Error(err)
	}
}
