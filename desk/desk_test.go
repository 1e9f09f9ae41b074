package desk_test

import (
	"encoding/hex"
	"strconv"
	"strings"
	"testing"

	"switchback/desk"
	"switchback/drive"
)

// done is what a script tells; it checks that by the chapter's table.
func done(t *testing.T, script string) string {
	t.Helper()
	got, want := desk.Do(script), told(script)
	if got != want {
		t.Fatalf("%.2000q:\n%.2000s\nwant\n%.2000s", script, got, want)
	}
	if again := desk.Do(script); again != got {
		t.Fatalf("%.2000q: another answer", script)
	}
	return got
}

// tells checks what a script tells.
func tells(t *testing.T, script string, want ...string) {
	t.Helper()
	all := ""
	for _, w := range want {
		all += w + "\n"
	}
	if got := done(t, script); got != all {
		t.Errorf("%.2000q: %.2000q, want %.2000q", script, got, all)
	}
}

func TestExamples(t *testing.T) {
	l := strings.Split(done(t, "| int main(){putc('a');return 3;}\nmodel 100\nmachine 100000\n"), "\n")
	if len(l) != 3 || l[0] != "exit 3 6 61" || !strings.HasPrefix(l[1], "exit 3") || !strings.HasSuffix(l[1], "61") || l[2] != "" {
		t.Errorf("%q", l)
	}
	tells(t, "judge", "sense 39 0")
	tells(t, "run", "what")
}

// TestLines has lines cut in all ways.
func TestLines(t *testing.T) {
	tells(t, "")
	tells(t, "\n", "what")
	tells(t, "\n\n", "what", "what")
	tells(t, "judge\n", "sense 39 0")
	tells(t, "judge\njudge", "sense 39 0", "sense 39 0")
	tells(t, "judge\n\njudge\n", "sense 39 0", "what", "sense 39 0")
	tells(t, "judge\r\njudge", "what", "sense 39 0")
	tells(t, "|int main(){}")
	tells(t, "|int main(){}\n\n|", "what")
	tells(t, "\x00\nju\x00dge\n\xff\n", "what", "what", "what")
}

// TestSource has sources that come about line by line.
func TestSource(t *testing.T) {
	tells(t, "|int \n|main(\n|\n|){}//\njudge\nmodel 9", "ok 1 3 0", "exit 0 1 -")
	tells(t, "| int main\njudge\n|(){}\njudge\n|x\njudge", "tree 20 10", "ok 1 3 0", "tree 20 15")
	tells(t, "|int ma\n|in(){}\njudge", "tree 20 7")
	tells(t, "|int main(){}// a remark\n|@\njudge", "text 14 24")
	tells(t, "|@\njudge\nnew\njudge\n|int main(){}\njudge\nnew\njudge", "text 14 0", "sense 39 0", "ok 1 3 0", "sense 39 0")
	tells(t, "|int a|b;\njudge", "tree 20 5")
	tells(t, "||\njudge", "tree 20 0")
	tells(t, "|int main(){return 1|2;}\nmodel 99", "exit 3 5 -")
	tells(t, " |int main(){}\njudge", "what", "sense 39 0")
	tells(t, "|int main(){return'\\n'+'\t';}\nmodel 99\nfinal 0", "exit 19 5 -", "fuel 0 -")
}

// TestCounts: how many functions, nodes and globals, words and words of data there are.
func TestCounts(t *testing.T) {
	tells(t, "|enum{A};int a,b[2];char c=3;void f(){}int g(){return 1;}int main(){}\njudge", "ok 3 18 3")
	src := "int a,b[2];char c=3;int main(){return c;}"
	m, err := drive.Compile(src)
	if err != nil || len(m.Words) == 0 || len(m.Data) != 2 {
		t.Fatalf("%+v, %v", m, err)
	}
	tells(t, "|"+src+"\ncompile", "ok "+strconv.Itoa(len(m.Words))+" 2")
}

// TestNoCommands has lines that are just not commands.
func TestNoCommands(t *testing.T) {
	for _, line := range []string{
		"", " ", "x", "New", "new ", " new", "new 1", "JUDGE", "judge ", "judge 1", " judge", "judg", "judgee", "compile 1", "compile ", "list", "run", "what", "ok",
		"model", "model ", "model  ", "model x", "model -1", "model +1", "model 1.", "model 0x1", "model 12345678", "model 00000001", "model 1_0", "model\t1", " model 1", "model  1", "modell 1", "mode 1", "Model 1",
		"model 1  ", "model 1\t", "model 1 0", "model 1 000", "model 1 0g", "model 1 g0", "model 1 0A", "model 1 A0", "model 1 00 ", "model 1 00 00", "model 1  00", "model 100\r", "model 1,00", "model 1 0x", "model 1 -1", "model 1 +1", "model 1 é", "model ١",
		"graph", "final x", "machine ", "machine 1 0", "machine 12345678 00", "graph 1 0", "final 1  ", "1 model", "judge\x00",
	} {
		tells(t, "|int main(){}\n"+line+"\njudge", "what", "ok 1 3 0")
		tells(t, line+"\n", "what")
	}
}

// TestRuns has runs of each of the four that run.
func TestRuns(t *testing.T) {
	echo := "|int main(){int c;while((c=getc())!=-1)putc(c);return -1;}\n"
	var all strings.Builder
	for b := range 256 {
		all.Write([]byte{byte(255 - b)})
	}
	every := hex.EncodeToString([]byte(all.String()))
	for _, word := range []string{"model", "graph", "final", "machine"} {
		for _, input := range []string{"", "00", "ff", "0a1b2c3d4e5f", "6162", every} {
			out := input
			if out == "" {
				out = "-"
			}
			got := done(t, echo+word+" 9999999 "+input)
			if !strings.HasPrefix(got, "exit 4294967295 ") || !strings.HasSuffix(got, " "+out+"\n") {
				t.Errorf("%s %s: %s", word, input, got)
			}
		}
		for _, fuel := range []string{"9999999", "9999999 ", "0009999", "0009999 "} {
			if got := done(t, echo+word+" "+fuel); !strings.HasPrefix(got, "exit 4294967295 ") || !strings.HasSuffix(got, " -\n") {
				t.Errorf("%s %s: %s", word, fuel, got)
			}
		}
		tells(t, echo+word+" 0\n"+word+" 0 \n"+word+" 0000000 6162\n"+word+" 3", "fuel 0 -", "fuel 0 -", "fuel 0 -", "fuel 3 -")
		tells(t, "|int main(){for(;;);}\n"+word+" 0\n"+word+" 1\n"+word+" 1000000\n", "fuel 0 -", "fuel 1 -", "fuel 1000000 -")
		if got := done(t, "|int main(){putc('z');return 1/getc();}\n"+word+" 100000 00"); !strings.HasPrefix(got, "trap 1 ") || !strings.HasSuffix(got, " 7a\n") {
			t.Errorf("%s: %s", word, got)
		}
		if got := done(t, "|int main(){putc(10);for(;;)putc(200);}\n"+word+" 1000"); !strings.HasPrefix(got, "fuel 1000 0ac8") {
			t.Errorf("%s: %s", word, got)
		}
	}
}

// TestWhichOneRuns has a source whose runs take other steps in each of the four.
func TestWhichOneRuns(t *testing.T) {
	src := "|int main(){int i,n;for(;i<20;i++){if(i%2==0&&1+1==2)n+=i;else goto l;l:;}return n;}\n"
	steps := map[string]int{}
	for _, word := range []string{"model", "graph", "final", "machine"} {
		got := strings.Split(done(t, src+word+" 9999999"), " ")
		if got[0] != "exit" || got[1] != "90" {
			t.Errorf("%s: %s", word, got)
		}
		steps[got[2]]++
	}
	if len(steps) != 4 {
		t.Errorf("%v", steps)
	}
}

// TestFaults has sources that are wrong, in each way: each command tells so.
func TestFaults(t *testing.T) {
	for src, want := range map[string]string{"@": "text 14 0", "int": "tree 20 4", "int f(){return 0;}": "sense 39 0", "int main(){\n|return x;}": "sense 31 19"} {
		script := "|" + src + "\njudge\ncompile\nmodel 1\ngraph 1 00\nfinal 1 \nmachine 9999999"
		tells(t, script, want, want, want, want, want, want)
		tells(t, script+"\nnew\n|int main(){}\njudge\n|@\njudge", want, want, want, want, want, want, "ok 1 3 0", "text 14 13")
	}
}

// TestLong has scripts of as many bytes as there may be, and one more.
func TestLong(t *testing.T) {
	tells(t, strings.Repeat("\n", 20001), "long")
	tells(t, "judge\n"+strings.Repeat(" ", 19995), "long")
	tells(t, "|"+strings.Repeat(" ", 20000), "long")
	tells(t, "judge\n"+strings.Repeat(" ", 19994), "sense 39 0", "what")
	tells(t, "|"+strings.Repeat(" ", 19999))
	tells(t, "|"+strings.Repeat(" ", 19989)+"@\njudge\n\n", "text 14 19989", "what")
	tells(t, strings.Repeat("\n", 20000), strings.Split(strings.Repeat("what\n", 20000), "\n")[:20000]...)
	src := "|int main(){while(getc()+1)putc('x');}\nmachine 9999999 "
	pairs := (20000 - len(src)) / 2
	got := done(t, src+strings.Repeat("0a", pairs))
	if !strings.HasPrefix(got, "exit 0 ") || !strings.HasSuffix(got, " "+strings.Repeat("78", pairs)+"\n") {
		t.Errorf("%.300s", got)
	}
}

// TestOftenAsked has a great source of which much is asked: it is compiled but once.
func TestOftenAsked(t *testing.T) {
	script := "|char c=3;int main(){return " + strings.Repeat("c+=", 1900) + "1;}\n" + strings.Repeat("compile\nfinal 1\n", 800)
	got := strings.Split(desk.Do(script), "\n")
	if len(got) != 1601 || !strings.HasPrefix(got[0], "ok ") || got[1] != "fuel 1 -" || got[1598] != got[0] || got[1599] != got[1] {
		t.Errorf("%d lines, %q", len(got), got[:2])
	}
}
