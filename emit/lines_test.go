package emit_test

import (
	"strings"
	"testing"

	"switchback/api"
	"switchback/list"
)

// text is a list in one row.
func text(l []api.Line) string {
	s, _ := list.Print(l)
	return strings.ReplaceAll(strings.TrimSuffix(s, "\n"), "\n", "; ")
}

// TestLines has whole lists: that no line more stands in them is the program's own wish, where the chapter leaves them free.
func TestLines(t *testing.T) {
	const leave = "LD R0 R11 0; RET"
	for name, x := range map[string]struct {
		g    api.Graph
		want string
	}{
		"nothing":                     {fn(0, block(back(-1))), "L0:; LI R9 0; RET"},
		"a register is kept":          {fn(1, block(back(0), set(0, 7))), "L0:; ST R0 R11 0; LI R0 7; MOV R9 R0; " + leave},
		"the last register":           {fn(9, block(back(8), getc(8))), "L0:; ST R8 R11 0; GETC R8; MOV R9 R8; LD R8 R11 0; RET"},
		"the first slot":              {fn(10, block(back(9), getc(9))), "L0:; GETC R9; ST R9 R11 0; LD R9 R11 0; RET"},
		"a slot behind registers":     {fn(12, block(back(-1), getc(3), one(api.InsMove, 10, 3))), "L0:; ST R3 R11 0; GETC R3; ST R3 R11 2; LI R9 0; LD R3 R11 0; RET"},
		"a nought":                    {fn(1, block(back(0))), "L0:; ST R0 R11 0; LI R9 0; MOV R0 R9; MOV R9 R0; " + leave},
		"a nought in a slot":          {fn(11, block(back(10))), "L0:; LI R9 0; ST R9 R11 1; LD R9 R11 1; RET"},
		"small numbers":               {fn(1, block(to(0), set(0, 32767), set(0, 1<<32-32768))), "L0:; ST R0 R11 0; L7:; LI R0 32767; LI R0 -32768; JMP L7; " + leave},
		"great numbers":               {fn(1, block(to(0), set(0, 32768), set(0, 1<<32-32769))), "L0:; ST R0 R11 0; L7:; LIT R0 32768; LIT R0 4294934527; JMP L7; " + leave},
		"a word that is there":        {fn(1, block(to(0), getc(0), one(api.InsMove, 0, 0))), "L0:; ST R0 R11 0; L7:; GETC R0; JMP L7; " + leave},
		"slot to slot":                {fn(11, block(to(0), getc(9), one(api.InsMove, 10, 9))), "L0:; L7:; GETC R9; ST R9 R11 0; LD R9 R11 0; ST R9 R11 1; JMP L7; RET"},
		"slot to register":            {fn(10, block(to(0), getc(9), one(api.InsMove, 0, 9))), "L0:; ST R0 R11 0; L7:; GETC R9; ST R9 R11 1; LD R0 R11 1; JMP L7; " + leave},
		"local arrays":                {knowing(fn(0, block(to(0))), local(3), local(2)), "L0:; ST R0 R11 0; LI R9 0; ADDI R10 R11 1; ADDI R0 R11 6; L7:; ST R9 R10 0; ADDI R10 R10 1; BLTU R10 R0 L7; L8:; JMP L8; " + leave},
		"blocks behind one another":   {fn(0, block(to(2)), block(back(-1)), block(to(1))), "L0:; LI R9 0; RET"},
		"what is led to is behind":    {fn(2, block(either(api.InsLtS, 0, 1, 1, 2), getc(0), getc(1)), block(to(0)), block(back(-1))), "L0:; ST R0 R11 0; ST R1 R11 1; L7:; GETC R0; GETC R1; BGES R0 R1 L8; JMP L7; L8:; LI R9 0; LD R0 R11 0; LD R1 R11 1; RET"},
		"what else is led to is":      {fn(2, block(either(api.InsLeU, 0, 1, 0, 1), getc(0), getc(1)), block(back(-1))), "L0:; ST R0 R11 0; ST R1 R11 1; L7:; GETC R0; GETC R1; BLEU R0 R1 L7; LI R9 0; LD R0 R11 0; LD R1 R11 1; RET"},
		"none of both":                {fn(2, block(either(api.InsNe, 0, 1, 0, 0), getc(0), getc(1))), "L0:; ST R0 R11 0; ST R1 R11 1; L7:; GETC R0; GETC R1; BNE R0 R1 L7; JMP L7; LD R0 R11 0; LD R1 R11 1; RET"},
		"no cases":                    {fn(1, block(choose(0, 0), getc(0))), "L0:; ST R0 R11 0; L7:; GETC R0; JMP L7; " + leave},
		"cases":                       {fn(1, block(choose(0, 1, api.Case{N: 3}, api.Case{N: 1 << 20}), getc(0)), block(back(-1))), "L0:; ST R0 R11 0; L7:; GETC R0; LI R10 3; BEQ R0 R10 L7; LIT R10 1048576; BEQ R0 R10 L7; LI R9 0; " + leave},
		"a table that begins with 0":  {fn(1, block(table(0, 0, 1, 0, 1), getc(0)), block(back(-1))), "L0:; ST R0 R11 0; L7:; GETC R0; LI R10 2; BGEU R0 R10 L8; JTAB R0 L7 L8; L8:; LI R9 0; " + leave},
		"a table":                     {fn(1, block(table(0, 5, 1, 0), getc(0)), block(back(-1))), "L0:; ST R0 R11 0; L7:; GETC R0; LI R10 5; SUB R9 R0 R10; LI R10 1; BGEU R9 R10 L8; JTAB R9 L7; L8:; LI R9 0; " + leave},
		"a call by an empty frame":    {fn(0, block(back(-1), call(-1, 0))), "L0:; CALL L0; LI R9 0; RET"},
		"a call":                      {fn(11, block(back(10), call(10, 1, 9, 10))), "L0:; LI R9 0; ST R9 R11 0; ST R9 R11 1; LD R9 R11 0; ST R9 R11 2; LD R9 R11 1; ST R9 R11 3; ADDI R11 R11 2; CALL L1; ADDI R11 R11 -2; ST R9 R11 1; LD R9 R11 1; RET"},
		"more than one block returns": {fn(1, block(either(api.InsEq, 0, 0, 1, 2), getc(0)), block(back(0)), block(back(-1))), "L0:; ST R0 R11 0; GETC R0; BNE R0 R0 L7; MOV R9 R0; JMP L8; L7:; LI R9 0; L8:; " + leave},
	} {
		m := of(x.g, with(fn(2, block(back(-1))), 0, 1))
		if l, _ := emitted(t, m, 0, 7); text(l) != x.want {
			t.Errorf("%s:\n%s\nwant\n%s", name, text(l), x.want)
		}
	}
}

// TestLinesOfElements has an element of an array of each kind.
func TestLinesOfElements(t *testing.T) {
	g := knowing(fn(1, block(to(0), getc(0), get(0, 0, 0), put(1, 0, 0), get(0, 2, 0))), global(1), local(3), handed())
	m := of(fn(0, block(back(-1))), g)
	m.Globals, m.Arrays = []uint32{1, 2}, []int{5, 6}
	want := "L1:; ST R0 R11 2; LI R9 0; ADDI R10 R11 3; ADDI R0 R11 6; L2:; ST R9 R10 0; ADDI R10 R10 1; BLTU R10 R0 L2; L3:; GETC R0; " +
		"LI R10 6; CHK R0 R10; LD R0 R0 7; " +
		"LI R10 3; CHK R0 R10; ADD R9 R11 R0; ST R0 R9 3; " +
		"LD R10 R11 1; CHK R0 R10; LD R10 R11 0; ADD R9 R10 R0; LD R0 R9 0; JMP L3; LD R0 R11 2; RET"
	if l, _ := emitted(t, m, 1, 2); text(l) != want {
		t.Errorf("%s\nwant\n%s", text(l), want)
	}
}
