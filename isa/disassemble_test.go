package isa_test

import (
	"math"
	"math/rand"
	"strings"
	"testing"

	"multikernel/api"
	"multikernel/isa"
)

// P9.6

func TestDisassemble(t *testing.T) {
	for _, c := range []struct {
		p    []api.Instr
		want string
	}{
		{[]api.Instr{{}}, "halt;\n"},
		{[]api.Instr{{Op: api.InstrYield}, {Op: api.InstrNop}}, "yield;\nnop;\n"},
		{[]api.Instr{{Op: api.InstrLi}}, "li r0, 0;\n"},
		{[]api.Instr{{Op: api.InstrLi, A: 9, Imm: math.MinInt32}}, "li r9, -2147483648;\n"},
		{[]api.Instr{{Op: api.InstrLd, A: 15, B: 10, Imm: math.MaxInt32}}, "ld r15, r10, 2147483647;\n"},
		{[]api.Instr{{Op: api.InstrMov, A: 1, B: 2}}, "mov r1, r2;\n"},
		{[]api.Instr{{Op: api.InstrSeq, A: 1, B: 2, C: 3}}, "seq r1, r2, r3;\n"},
		{[]api.Instr{{Op: api.InstrJr, A: 11}}, "jr r11;\n"},
		{[]api.Instr{{Op: api.InstrSys, Imm: -7}}, "sys -7;\n"},
		{[]api.Instr{{Op: api.InstrJmp}}, "L0: jmp L0;\n"},
		{[]api.Instr{{Op: api.InstrJmp, Imm: 1}, {}}, "jmp L1;\nL1: halt;\n"},
		{[]api.Instr{{}, {Op: api.InstrBeqz, A: 3, Imm: 2}, {Op: api.InstrJal, A: 14, Imm: 2}, {Op: api.InstrBnez}}, "L0: halt;\nbeqz r3, L2;\nL2: jal r14, L2;\nbnez r0, L0;\n"},
		{[]api.Instr{{Op: api.InstrLi, A: 1, Imm: 1}, {Op: api.InstrSys, Imm: 2}, {Op: api.InstrSt, Imm: 0}}, "li r1, 1;\nsys 2;\nst r0, r0, 0;\n"},
	} {
		if got := isa.Disassemble(c.p); got != c.want {
			t.Errorf("%v: %q, want %q", c.p, got, c.want)
		}
		checkProgram(t, c.p, api.OK)
	}
}

func TestDisassembleAll(t *testing.T) {
	want := "L0: halt;\nli r15, -300;\nlih r15, -300;\nmov r15, r7;\nadd r15, r7, r1;\nsub r15, r7, r1;\nmul r15, r7, r1;\ndiv r15, r7, r1;\nrem r15, r7, r1;\nand r15, r7, r1;\n" +
		"or r15, r7, r1;\nxor r15, r7, r1;\nshl r15, r7, r1;\nshr r15, r7, r1;\naddi r15, r7, -300;\nslt r15, r7, r1;\nsltu r15, r7, r1;\nseq r15, r7, r1;\njmp L0;\nbeqz r15, L0;\n" +
		"bnez r15, L0;\njal r15, L0;\njr r15;\nld r15, r7, -300;\nst r15, r7, -300;\nsys -300;\nyield;\nnop;\n"
	if got := isa.Disassemble(examples()); got != want {
		t.Errorf("%q, want %q", got, want)
	}
}

func TestDisassembleLongProgram(t *testing.T) {
	p := repeat(api.MaxProgram, api.Instr{Op: api.InstrNop})
	p[0] = api.Instr{Op: api.InstrJmp, Imm: api.MaxProgram - 1}
	want := "jmp L4095;\n" + strings.Repeat("nop;\n", api.MaxProgram-2) + "L4095: nop;\n"
	if got := isa.Disassemble(p); got != want {
		t.Errorf("%d bytes, want %d", len(got), len(want))
	}
}

// P9.7, the second half

func TestAssembleUndoesDisassemble(t *testing.T) {
	r := rand.New(rand.NewSource(4))
	for range 5000 {
		checkProgram(t, randomProgram(r), api.OK)
	}
}

func TestAssembleOfLongestText(t *testing.T) {
	p := repeat(api.MaxProgram, api.Instr{Op: api.InstrSys, Imm: math.MaxInt32})
	text := isa.Disassemble(p)
	if len(text) != api.MaxTextLen {
		t.Fatal(len(text))
	}
	checkAssemble(t, text, p)
	p[5].Imm = math.MinInt32
	text = isa.Disassemble(p)
	if len(text) != api.MaxTextLen+1 {
		t.Fatal(len(text))
	}
	checkAssembleError(t, text, 0, 0, api.ErrLimit)
}
