package isa_test

import (
	"math"
	"math/rand"
	"testing"

	"multikernel/api"
	"multikernel/isa"
)

// P9.1

// numbers lists the opcodes as package api names them.
func numbers() map[string]int {
	return map[string]int{
		"halt": api.InstrHalt, "li": api.InstrLi, "lih": api.InstrLih, "mov": api.InstrMov, "add": api.InstrAdd, "sub": api.InstrSub,
		"mul": api.InstrMul, "div": api.InstrDiv, "rem": api.InstrRem, "and": api.InstrAnd, "or": api.InstrOr, "xor": api.InstrXor,
		"shl": api.InstrShl, "shr": api.InstrShr, "addi": api.InstrAddi, "slt": api.InstrSlt, "sltu": api.InstrSltu, "seq": api.InstrSeq,
		"jmp": api.InstrJmp, "beqz": api.InstrBeqz, "bnez": api.InstrBnez, "jal": api.InstrJal, "jr": api.InstrJr, "ld": api.InstrLd,
		"st": api.InstrSt, "sys": api.InstrSys, "yield": api.InstrYield, "nop": api.InstrNop,
	}
}

func TestOpcodes(t *testing.T) {
	if len(numbers()) != 28 {
		t.Error(numbers())
	}
	for mnemonic, op := range numbers() {
		if shapes[op].mnemonic != mnemonic {
			t.Errorf("%s has the number %d, which is that of %s", mnemonic, op, shapes[op].mnemonic)
		}
	}
	checkProgram(t, examples(), api.OK)
}

// P9.2

func TestValidateLength(t *testing.T) {
	checkProgram(t, nil, api.ErrLimit)
	checkProgram(t, []api.Instr{}, api.ErrLimit)
	nop := api.Instr{Op: api.InstrNop}
	checkProgram(t, repeat(1, nop), api.OK)
	checkProgram(t, repeat(api.MaxProgram, nop), api.OK)
	checkProgram(t, repeat(api.MaxProgram+1, nop), api.ErrLimit)
	checkProgram(t, repeat(api.MaxProgram+1, api.Instr{Op: -1}), api.ErrLimit)
	checkProgram(t, repeat(20*api.MaxProgram, nop), api.ErrLimit)
}

func TestValidateOpcode(t *testing.T) {
	for op := range 28 {
		checkProgram(t, []api.Instr{example(op)}, api.OK)
	}
	for _, op := range []int{-1, 28, 29, 255, 256, -256, 1 << 32, 1<<32 + 1, math.MaxInt, math.MinInt} {
		checkProgram(t, []api.Instr{{Op: op}}, api.ErrOpcode)
		checkProgram(t, []api.Instr{{}, {Op: op, Imm: 99}}, api.ErrOpcode)
	}
}

func TestValidateRegisters(t *testing.T) {
	for op, s := range shapes {
		for field, name := range []string{"A", "B", "C"} {
			for _, n := range []int{math.MinInt, -1 << 32, -1, 0, 1, 14, 15, 16, 17, 255, 256, 1 << 32, math.MaxInt} {
				in := example(op)
				*[]*int{&in.A, &in.B, &in.C}[field] = n
				want := api.ErrOpcode
				if n == 0 || s.uses(name) && 0 < n && n < 16 {
					want = api.OK
				}
				checkProgram(t, []api.Instr{in}, want)
				checkProgram(t, []api.Instr{{}, in, {}}, want)
			}
		}
	}
}

func TestValidateImm(t *testing.T) {
	for op, s := range shapes {
		for _, n := range []int32{math.MinInt32, -3, -1, 0, 1, 2, 3, 28, 1 << 16, math.MaxInt32} {
			in := example(op)
			in.Imm = n
			want := api.OK
			switch {
			case s.uses("target") && (n < 0 || n > 2):
				want = api.ErrTarget
			case !s.uses("target") && !s.uses("Imm") && n != 0:
				want = api.ErrOpcode
			}
			checkProgram(t, []api.Instr{in, {}, {}}, want)
			checkProgram(t, []api.Instr{{}, {}, in}, want)
		}
	}
}

func TestValidateTargetOfLongProgram(t *testing.T) {
	p := repeat(api.MaxProgram, api.Instr{Op: api.InstrNop})
	p[7] = api.Instr{Op: api.InstrJmp, Imm: api.MaxProgram - 1}
	checkProgram(t, p, api.OK)
	p[7].Imm = api.MaxProgram
	checkProgram(t, p, api.ErrTarget)
	p[7].Imm = -1
	checkProgram(t, p, api.ErrTarget)
}

func TestValidateFirstError(t *testing.T) {
	opcode, target := api.Instr{Op: 99}, api.Instr{Op: api.InstrJmp, Imm: 9}
	checkProgram(t, []api.Instr{{}, opcode, target}, api.ErrOpcode)
	checkProgram(t, []api.Instr{{}, target, opcode}, api.ErrTarget)
	for _, both := range []api.Instr{
		{Op: api.InstrJmp, A: 1, Imm: 9}, {Op: api.InstrJmp, B: 1, Imm: 9}, {Op: api.InstrJmp, C: -1, Imm: -1},
		{Op: api.InstrJal, A: 16, Imm: 9}, {Op: api.InstrBeqz, A: -1, Imm: -1}, {Op: api.InstrBnez, B: 1, Imm: 9}, {Op: api.InstrJal, C: 1, Imm: 9},
	} {
		checkProgram(t, []api.Instr{both}, api.ErrOpcode)
		checkProgram(t, []api.Instr{{}, both, target}, api.ErrOpcode)
	}
}

func TestValidateAgainstReference(t *testing.T) {
	r := rand.New(rand.NewSource(1))
	count := map[api.Errno]int{}
	for range 20000 {
		p := randomProgram(r)
		for range r.Intn(3) {
			spoil(r, p)
		}
		want := referenceError(p)
		count[want]++
		if err := isa.Validate(p); err != want {
			t.Fatalf("%v: error %d, want %d", p, err, want)
		}
	}
	if count[api.OK] < 1000 || count[api.ErrOpcode] < 1000 || count[api.ErrTarget] < 100 {
		t.Error(count)
	}
}
