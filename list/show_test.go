package list_test

import (
	"fmt"
	"math/rand"
	"reflect"
	"slices"
	"strings"
	"testing"

	"switchback/api"
	"switchback/enc"
	"switchback/list"
	"switchback/relax"
	"switchback/sample"
)

// shown is what Show tells.
func shown(m api.Image) string {
	s := fmt.Sprintf("entry %d\n", m.Entry)
	for i, w := range m.Words {
		what := "?"
		if i < len(m.Kinds) {
			switch m.Kinds[i] {
			case 1:
				what = codeText(w)
			case 2:
				what = "literal"
			case 3:
				what = "table"
			}
		}
		s += fmt.Sprintf("%d %08x %s\n", i, w, what)
	}
	s += "data"
	for _, w := range m.Data {
		s += fmt.Sprintf(" %d", w)
	}
	return s + "\n"
}

// codeText is a word as an instruction.
func codeText(w uint32) string {
	c, e := enc.Decode(w)
	if e != api.OK {
		return "?"
	}
	s, letters := row(c.Op)
	for _, letter := range letters {
		switch {
		case letter == 'a':
			s += fmt.Sprintf(" R%d", c.A)
		case letter == 'b':
			s += fmt.Sprintf(" R%d", c.B)
		case letter == 'c':
			s += fmt.Sprintf(" R%d", c.Imm)
		case letter == 'i' || letter == 'h' || letter == 'l' && c.Op >= api.MacBEQ && c.Op <= api.MacJMP:
			s += fmt.Sprintf(" %d", c.Imm)
		}
	}
	return s
}

// show checks what Show tells of an image.
func show(t *testing.T, m api.Image) string {
	t.Helper()
	before := api.Image{Words: slices.Clone(m.Words), Kinds: slices.Clone(m.Kinds), Data: slices.Clone(m.Data), Entry: m.Entry}
	s := list.Show(m)
	if want := shown(m); s != want {
		t.Fatalf("%+v:\n%s\nwant\n%s", m, short(s), short(want))
	}
	if !reflect.DeepEqual(m, before) {
		t.Fatalf("changed: %+v", before)
	}
	return s
}

func TestShow(t *testing.T) {
	for _, x := range []struct {
		m    api.Image
		want string
	}{
		{api.Image{}, "entry 0\ndata\n"},
		{api.Image{Words: []uint32{0x0130fffe, 0x29000000, 1, 0x1e01ff80}, Kinds: []int{1, 1, 2, 1}, Data: []uint32{5}}, "entry 0\n0 0130fffe LI R3 -2\n1 29000000 JML\n2 00000001 literal\n3 1e01ff80 BEQ R0 R1 -128\ndata 5\n"},
		{api.Image{Words: []uint32{0x2c000000, 0x2c000000, 0x2c000000, 0x2c000000, 0x2c000000, 0x2c000000}, Kinds: []int{1, 0, 3, 4, -1}, Entry: -7}, "entry -7\n0 2c000000 RET\n1 2c000000 ?\n2 2c000000 table\n3 2c000000 ?\n4 2c000000 ?\n5 2c000000 ?\ndata\n"},
		{api.Image{Words: []uint32{0, 0xffffffff, 0x2c000001, 0x31000000}, Kinds: []int{1, 1, 1, 1, 1, 2}, Data: []uint32{0, 4294967295, 2147483648}, Entry: 99}, "entry 99\n0 00000000 ?\n1 ffffffff ?\n2 2c000001 ?\n3 31000000 ?\ndata 0 4294967295 2147483648\n"},
		{api.Image{Words: []uint32{0x02300000, 0x2a500000, 0x2b000000, 0x28000005, 0x2800fffe, 0x0512000b, 0x300000ff, 0x1c0b0004}, Kinds: []int{1, 1, 1, 1, 1, 1, 1, 1}}, "entry 0\n0 02300000 LIT R3\n1 2a500000 JTAB R5\n2 2b000000 CALL\n3 28000005 JMP 5\n4 2800fffe JMP -2\n5 0512000b ADD R1 R2 R11\n6 300000ff TRAP 255\n7 1c0b0004 ST R0 R11 4\ndata\n"},
	} {
		if s := show(t, x.m); s != x.want {
			t.Errorf("%q, want %q", s, x.want)
		}
	}
}

// TestShowEachInstruction has the words of each Op with some of what its fields may be, and beyond.
func TestShowEachInstruction(t *testing.T) {
	t.Parallel()
	var m api.Image
	for op := range uint32(64) {
		for _, a := range []uint32{0, 1, 11, 12, 15} {
			for _, b := range []uint32{0, 1, 9, 11, 12} {
				for _, imm := range []uint32{0, 1, 9, 11, 12, 127, 128, 255, 256, 32767, 32768, 65408, 65407, 65535} {
					m.Words = append(m.Words, op<<24|a<<20|b<<16|imm)
				}
			}
		}
	}
	m.Kinds = slices.Repeat([]int{1}, len(m.Words))
	for at := 0; at < len(m.Words); at += 1000 {
		to := min(len(m.Words), at+1000)
		show(t, api.Image{Words: m.Words[at:to], Kinds: m.Kinds[at:to]})
	}
}

// TestShowLists has images of lists, and any numbers.
func TestShowLists(t *testing.T) {
	t.Parallel()
	r := rand.New(rand.NewSource(1))
	for i := range uint64(400) {
		a, _, e := relax.Assemble(sample.Lines(i))
		if e != api.OK {
			t.Fatal(e)
		}
		m := api.Image{Words: a.Words, Kinds: a.Kinds, Entry: r.Intn(1000) - 100}
		for range r.Intn(10) {
			m.Data = append(m.Data, r.Uint32()>>r.Intn(32))
		}
		show(t, m)
		for k := range m.Kinds {
			if r.Intn(5) == 0 {
				m.Kinds[k] = r.Intn(7) - 1
			}
			if r.Intn(5) == 0 {
				m.Words[k] = r.Uint32() >> r.Intn(32)
			}
		}
		m.Kinds = m.Kinds[:r.Intn(len(m.Kinds)+1)]
		show(t, m)
		m.Kinds = append(m.Kinds, 1, 2, 3, 4)
		show(t, m)
	}
}

// TestShowMuch has more words than an image may have.
func TestShowMuch(t *testing.T) {
	t.Parallel()
	m := api.Image{Words: slices.Repeat([]uint32{0x2c000000}, 70000), Kinds: slices.Repeat([]int{1, 2}, 35000), Data: slices.Repeat([]uint32{7}, 600000)}
	s := list.Show(m)
	if n := strings.Count(s, "\n"); n != 70002 || !strings.Contains(s, "\n69998 2c000000 RET\n69999 2c000000 literal\ndata 7 7 7") || !strings.HasSuffix(s, " 7 7\n") {
		t.Errorf("%d lines", n)
	}
}
