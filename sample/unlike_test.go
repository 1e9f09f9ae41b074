package sample_test

import (
	"slices"
	"testing"

	"switchback/api"
	"switchback/enc"
	"switchback/graph"
	"switchback/sample"
)

// echo is a module that puts out what comes in, three bytes of it, and exits with a number.
func echo(number uint32) api.Module {
	b := api.Block{End: api.End{Kind: api.EndReturn}}
	for range 3 {
		b.Code = append(b.Code, api.Ins{Op: api.InsGetc}, api.Ins{Op: api.InsPutc})
	}
	b.Code = append(b.Code, api.Ins{Op: api.InsConst, N: number})
	return api.Module{Funcs: []api.Graph{{Temps: 1, Blocks: []api.Block{b}}}}
}

// imageOf is an image of some instructions.
func imageOf(code ...api.Code) api.Image {
	var m api.Image
	for _, c := range code {
		w, _ := enc.Encode(c)
		m.Words = append(m.Words, w)
		m.Kinds = append(m.Kinds, api.WordIns)
	}
	return m
}

// echoing is an image that means the same as echo.
func echoing(number int) []api.Code {
	in, out := api.Code{Op: api.MacGETC}, api.Code{Op: api.MacPUTC}
	return []api.Code{in, out, in, out, in, out, {Op: api.MacLI, Imm: number}, {Op: api.MacEXIT}}
}

func TestUnlikeImage(t *testing.T) {
	m := echo(7)
	for _, fuel := range []int{0, 1, 3, 7, 8, 9, 1000} {
		if s := sample.UnlikeImage(m, imageOf(echoing(7)...), "ab", fuel); s != "" {
			t.Errorf("%d: %s", fuel, s)
		}
	}
	idle := append(echoing(7)[:6:6], api.Code{Op: api.MacJMP, Imm: -1})
	for name, code := range map[string][]api.Code{
		"another code":   echoing(8),
		"another output": append([]api.Code{{Op: api.MacLI, Imm: 'x'}, {Op: api.MacPUTC}}, echoing(7)...),
		"less output":    echoing(7)[2:],
		"a trap":         append(echoing(7)[:7:7], api.Code{Op: api.MacTRAP, Imm: 7}),
		"no end":         idle,
	} {
		if s := sample.UnlikeImage(m, imageOf(code...), "ab", 100); s == "" {
			t.Errorf("%s: alike", name)
		}
	}
	endless := echo(7)
	endless.Funcs[0].Blocks[0].End = api.End{Kind: api.EndJump}
	if s := sample.UnlikeImage(endless, imageOf(echoing(7)...), "ab", 100); s == "" {
		t.Error("a run that goes on: alike")
	}
	if s := sample.UnlikeImage(m, api.Image{}, "ab", 100); s == "" {
		t.Error("no image: alike")
	}
}

func TestUnlike(t *testing.T) {
	m := echo(7)
	asMany := func(n int) int { return n }
	longer := graph.Copy(m)
	longer.Funcs[0].Blocks[0].Code = append(longer.Funcs[0].Blocks[0].Code, api.Ins{Op: api.InsMove})
	for _, fuel := range []int{0, 1, 3, 7, 8, 9, 1000} {
		if s := sample.Unlike(m, echo(7), "ab", fuel, asMany); s != "" {
			t.Errorf("%d: %s", fuel, s)
		}
		if s := sample.Unlike(m, longer, "ab", fuel, func(n int) int { return n + 1 }); s != "" {
			t.Errorf("%d: %s", fuel, s)
		}
	}
	if sample.Unlike(m, echo(8), "ab", 100, asMany) == "" || sample.Unlike(m, longer, "ab", 100, asMany) == "" {
		t.Error("another code, or more steps: alike")
	}
}

// program is a program that means the same as echo.
func program(t *testing.T, code string) api.Program {
	t.Helper()
	p, wrong := sample.Read("int main(){putc(getc());putc(getc());putc(getc());return " + code + ";}")
	if wrong != "" {
		t.Fatal(wrong)
	}
	return p
}

func TestUnlikeLowered(t *testing.T) {
	p := program(t, "7")
	for _, fuel := range []int{0, 1, 3, 7, 13, 14, 1000} {
		if s := sample.UnlikeLowered(p, echo(7), "ab", fuel); s != "" {
			t.Errorf("%d: %s", fuel, s)
		}
	}
	endless := echo(7)
	endless.Funcs[0].Blocks[0].End = api.End{Kind: api.EndJump}
	longer := echo(7)
	most := (len(p.Nodes) + 16) * 19
	longer.Funcs[0].Blocks[0].Code = append(longer.Funcs[0].Blocks[0].Code, slices.Repeat([]api.Ins{{Op: api.InsMove}}, most)...)
	for name, m := range map[string]api.Module{"another code": echo(8), "no end": endless, "too many steps": longer, "no module": {}} {
		if sample.UnlikeLowered(p, m, "ab", 100) == "" {
			t.Errorf("%s: alike", name)
		}
	}
	if sample.UnlikeLowered(program(t, "1/0"), echo(7), "ab", 100) == "" {
		t.Error("a trap: alike")
	}
}

func TestUnlikeProgram(t *testing.T) {
	p := program(t, "7")
	for _, fuel := range []int{0, 1, 3, 7, 13, 14, 1000} {
		if s := sample.UnlikeProgram(p, imageOf(echoing(7)...), "ab", fuel); s != "" {
			t.Errorf("%d: %s", fuel, s)
		}
	}
	for name, code := range map[string][]api.Code{
		"another code": echoing(8),
		"less output":  echoing(7)[2:],
		"no end":       append(echoing(7)[:6:6], api.Code{Op: api.MacJMP, Imm: -1}),
	} {
		if sample.UnlikeProgram(p, imageOf(code...), "ab", 100) == "" {
			t.Errorf("%s: alike", name)
		}
	}
	if sample.UnlikeProgram(program(t, "1/0"), imageOf(echoing(7)...), "ab", 100) == "" || sample.UnlikeProgram(p, api.Image{}, "ab", 100) == "" {
		t.Error("a trap, or no image: alike")
	}
}
