package isa_test

import (
	"math"
	"strconv"
	"strings"
	"testing"

	"multikernel/api"
	"multikernel/hwlex"
	"multikernel/isa"
)

// P9.4

func TestAssembleExample(t *testing.T) {
	checkAssemble(t, "start: li r1, 5; loop: addi r1, r1, -1; bnez r1, loop; halt;", []api.Instr{
		{Op: api.InstrLi, A: 1, Imm: 5}, {Op: api.InstrAddi, A: 1, B: 1, Imm: -1}, {Op: api.InstrBnez, A: 1, Imm: 1}, {Op: api.InstrHalt},
	})
}

func TestAssembleAll(t *testing.T) {
	src := `halt; li r15, -300; lih r15, -300; mov r15, r7; add r15, r7, r1; sub r15, r7, r1; mul r15, r7, r1; div r15, r7, r1; rem r15, r7, r1; and r15, r7, r1;
		or r15, r7, r1; xor r15, r7, r1; shl r15, r7, r1; shr r15, r7, r1; addi r15, r7, -300; slt r15, r7, r1; sltu r15, r7, r1; seq r15, r7, r1; jmp 0; beqz r15, 0;
		bnez r15, 0; jal r15, 0; jr r15; ld r15, r7, -300; st r15, r7, -300; sys -300; yield; nop;`
	checkAssemble(t, src, examples())
	checkAssemble(t, strings.Join(strings.Fields(strings.NewReplacer(",", " , ", ";", " ; ", "-", " - ").Replace(src)), "#,;:\n"), examples())
}

func TestAssembleRegisters(t *testing.T) {
	for n := range 16 {
		word := "r" + strconv.Itoa(n)
		checkAssemble(t, "add "+word+", r1, r2;", []api.Instr{{Op: api.InstrAdd, A: n, B: 1, C: 2}})
		checkAssemble(t, "add r1,"+word+",r2;", []api.Instr{{Op: api.InstrAdd, A: 1, B: n, C: 2}})
		checkAssemble(t, "add r1 , r2 , "+word+" ;", []api.Instr{{Op: api.InstrAdd, A: 1, B: 2, C: n}})
		checkAssembleError(t, word+": nop;", 1, 1, api.ErrSyntax)
		checkAssembleError(t, "nop; x: "+word+": nop;", 1, 9, api.ErrSyntax)
		checkAssembleError(t, "jmp "+word+";", 1, 5, api.ErrSyntax)
		checkAssembleError(t, "beqz r1, "+word+";", 1, 10, api.ErrSyntax)
		checkAssembleError(t, "li r1, "+word+";", 1, 8, api.ErrSyntax)
		checkAssembleError(t, "ld r1, r2, "+word+";", 1, 12, api.ErrSyntax)
		checkAssembleError(t, "sys "+word+";", 1, 5, api.ErrSyntax)
		checkAssembleError(t, word+";", 1, 1, api.ErrSyntax)
		checkAssembleError(t, word+" r1, 5;", 1, 1, api.ErrSyntax)
	}
}

// Words that only look like a register are labels.
func TestAssembleLabelsLikeRegisters(t *testing.T) {
	for _, word := range strings.Fields("r16 r01 r00 r015 R1 r r_1 r1_ r1x _r1 rr1 r100 r99999999999999999999 x1") {
		checkAssemble(t, "nop; "+word+": jmp "+word+"; li r1, "+word+";", []api.Instr{{Op: api.InstrNop}, {Op: api.InstrJmp, Imm: 1}, {Op: api.InstrLi, A: 1, Imm: 1}})
		checkAssembleError(t, "jr "+word+";", 1, 4, api.ErrSyntax)
		checkAssembleError(t, "add r1, "+word+", r3;", 1, 9, api.ErrSyntax)
		checkAssembleError(t, "add r1, r2, "+word+";", 1, 13, api.ErrSyntax)
	}
}

func TestAssembleLabels(t *testing.T) {
	checkAssemble(t, "jmp a; b: nop; c: a: d: beqz r1, b; jal r2, c; sys d;", []api.Instr{
		{Op: api.InstrJmp, Imm: 2}, {Op: api.InstrNop}, {Op: api.InstrBeqz, A: 1, Imm: 1}, {Op: api.InstrJal, A: 2, Imm: 2}, {Op: api.InstrSys, Imm: 2},
	})
	checkAssemble(t, "x:X:nop;jmp X;Y:jmp x;jmp Y;", []api.Instr{{Op: api.InstrNop}, {Op: api.InstrJmp}, {Op: api.InstrJmp}, {Op: api.InstrJmp, Imm: 2}})
	checkAssemble(t, "unused: also_unused: halt;", []api.Instr{{}})
	checkAssemble(t, "nop; a: li r3, a; lih r3, b; addi r3, r3, b; ld r3, r4, b; b: st r3, r4, a;", []api.Instr{
		{Op: api.InstrNop}, {Op: api.InstrLi, A: 3, Imm: 1}, {Op: api.InstrLih, A: 3, Imm: 5}, {Op: api.InstrAddi, A: 3, B: 3, Imm: 5},
		{Op: api.InstrLd, A: 3, B: 4, Imm: 5}, {Op: api.InstrSt, A: 3, B: 4, Imm: 1},
	})
	for _, long := range []string{strings.Repeat("l", api.MaxNameLen+1), strings.Repeat("_", 10000)} {
		checkAssemble(t, "jmp "+long+"; "+long+": nop;", []api.Instr{{Op: api.InstrJmp, Imm: 1}, {Op: api.InstrNop}})
		checkAssembleError(t, "jmp "+long+"; "+long+"l: nop;", 1, 5, api.ErrLabel)
	}
}

func TestAssembleMnemonicsAsLabels(t *testing.T) {
	for _, s := range shapes {
		m := s.mnemonic
		checkAssemble(t, "nop; "+m+": "+m+"x: x"+m+": jmp "+m+"; li r1, "+m+";", []api.Instr{{Op: api.InstrNop}, {Op: api.InstrJmp, Imm: 1}, {Op: api.InstrLi, A: 1, Imm: 1}})
		checkAssembleError(t, "jmp "+m+";", 1, 5, api.ErrLabel)
		checkAssembleError(t, "nop; "+m+": nop; "+m+" : nop;", 1, 13+len(m), api.ErrLabel)
		checkAssembleError(t, m+": ;", 1, len(m)+3, api.ErrSyntax)
		checkAssembleError(t, strings.ToUpper(m)+";", 1, 1, api.ErrSyntax)
		checkAssembleError(t, m+"_;", 1, 1, api.ErrSyntax)
	}
	checkAssemble(t, "halt: halt; nop: jmp halt; jmp nop;", []api.Instr{{}, {Op: api.InstrJmp}, {Op: api.InstrJmp, Imm: 1}})
}

func TestAssembleNumbers(t *testing.T) {
	for text, want := range map[string]int32{
		"0": 0, "- 0": 0, "-0": 0, "1": 1, "-1": -1, "0x10K": 16384, "-0xff": -255, "2147483647": math.MaxInt32, "0x7fffffff": math.MaxInt32,
		"-2147483648": math.MinInt32, "-0x80000000": math.MinInt32, "-2G": math.MinInt32, "-2147483647": -math.MaxInt32, "-#\n5": -5,
	} {
		checkAssemble(t, "li r1, "+text+";", []api.Instr{{Op: api.InstrLi, A: 1, Imm: want}})
		checkAssemble(t, "lih r1, "+text+";", []api.Instr{{Op: api.InstrLih, A: 1, Imm: want}})
		checkAssemble(t, "addi r1, r2, "+text+";", []api.Instr{{Op: api.InstrAddi, A: 1, B: 2, Imm: want}})
		checkAssemble(t, "ld r1, r2, "+text+";", []api.Instr{{Op: api.InstrLd, A: 1, B: 2, Imm: want}})
		checkAssemble(t, "st r1, r2, "+text+";", []api.Instr{{Op: api.InstrSt, A: 1, B: 2, Imm: want}})
		checkAssemble(t, "sys "+text+";", []api.Instr{{Op: api.InstrSys, Imm: want}})
	}
	checkAssemble(t, "jmp 0x2; nop; beqz r1, 1;", []api.Instr{{Op: api.InstrJmp, Imm: 2}, {Op: api.InstrNop}, {Op: api.InstrBeqz, A: 1, Imm: 1}})
	nops := strings.Repeat("nop;", 1023)
	want := append(repeat(1023, api.Instr{Op: api.InstrNop}), api.Instr{Op: api.InstrJal, A: 1, Imm: 1023})
	checkAssemble(t, nops+"jal r1, 1023;", want)
	checkAssembleError(t, nops+"jal r1, 1K;", 1, 4101, api.ErrTarget)
}

// P9.5

func TestAssembleScanErrorsComeFirst(t *testing.T) {
	checkAssembleError(t, "x; 12a", 1, 4, api.ErrSyntax)
	checkAssembleError(t, "x;\n18446744073709551616", 2, 1, api.ErrRange)
	checkAssembleError(t, "li r1, 9999999999;\n\"", 2, 1, api.ErrSyntax)
	for _, src := range []string{strings.Repeat(" ", api.MaxTextLen+1), "nop;" + strings.Repeat("\n", api.MaxTextLen-3), strings.Repeat("$", api.MaxTextLen+1)} {
		checkAssembleError(t, src, 0, 0, api.ErrLimit)
	}
	checkAssemble(t, "nop;"+strings.Repeat("\n", api.MaxTextLen-4), []api.Instr{{Op: api.InstrNop}})
}

func TestAssembleSyntaxErrors(t *testing.T) {
	for _, c := range []struct {
		src string
		col int
	}{
		{";", 1}, {":", 1}, {",", 1}, {"5", 1}, {"- 5;", 1}, {`"nop";`, 1}, {`"x": nop;`, 1}, {"x;", 1}, {"x", 1}, {"x r1;", 1}, {"x x: nop;", 1}, {"5: nop;", 1}, {"(nop);", 1},
		{"x: ;", 4}, {"x:: nop;", 3}, {"x:y;", 3}, {"x: 5: nop;", 4}, {"x: y z: nop;", 4}, {"x -> nop;", 1}, {"x: nop: nop;;", 13},
		{"nop nop;", 5}, {"nop nop: nop;", 5}, {"nop, nop;", 4}, {"nop: nop nop;", 10}, {"nop;;", 5}, {"nop;:", 5}, {"nop; 5;", 6}, {"nop 5;", 5}, {"nop 99999999999;", 5}, {"nop -1;", 5}, {"nop r1;", 5}, {`nop "x";`, 5}, {"nop.", 4},
		{"li;", 3}, {"li 5;", 4}, {"li 99999999999, 5;", 4}, {"li -1, 5;", 4}, {"li x, 5;", 4}, {"li nop, 5;", 4}, {`li "r1", 5;`, 4}, {"li , 5;", 4}, {"li r1 5;", 7}, {"li r1;", 6}, {"li r1: nop;", 6}, {"li r1, ;", 8}, {"li r1,, 5;", 7},
		{"li r1, +5;", 8}, {"li r1, --5;", 9}, {"li r1, - r1;", 10}, {"li r1, -x;", 9}, {"li r1, -;", 9}, {"li r1, -> 5;", 8}, {`li r1, "5";`, 8}, {"li r1, 5 6;", 10}, {"li r1, 5, 6;", 9}, {"li r1, x y;", 10}, {"li r1, x: nop;", 9}, {"li r1, 5:", 9}, {"li r1, x 5;", 10}, {"li r1, r2;", 8}, {"li r1, r1: nop;", 8},
		{"mov r1;", 7}, {"mov r1, 5;", 9}, {"mov r1, r2, r3;", 11}, {"mov r1, x;", 9}, {"mov r1, -5;", 9},
		{"add r1, r2;", 11}, {"add r1, r2, 5;", 13}, {"add r1, r2, x;", 13}, {"add r1, r2, r3, r4;", 15}, {"add r1, r2 r3;", 12}, {"add r1 r2, r3;", 8}, {"add r1, r2, r3: nop;", 15},
		{"addi r1, 5;", 10}, {"addi r1, r2;", 12}, {"addi r1, r2, r3;", 14}, {"addi r1, r2, 5, 6;", 15},
		{"jmp;", 4}, {"jmp -1;", 5}, {"jmp - 0;", 5}, {"jmp r1;", 5}, {"jmp x, y;", 6}, {"jmp 0 0;", 7}, {"jmp x: nop;", 6}, {`jmp "x";`, 5}, {"jmp ,;", 5}, {"jmp r0: nop;", 5},
		{"beqz 0;", 6}, {"beqz r1;", 8}, {"beqz r1, -0;", 10}, {"beqz r1, r2;", 10}, {"beqz r1, x, y;", 11}, {"beqz x;", 6}, {"beqz r1 x;", 9},
		{"jr 1;", 4}, {"jr;", 3}, {"jr r1, r2;", 6}, {"sys r1;", 5}, {"sys;", 4}, {"sys 1, 2;", 6}, {"sys -r1;", 6}, {"ld r1, r2;", 10}, {"st r1, 5, r2;", 8},
	} {
		checkAssembleError(t, c.src, 1, c.col, api.ErrSyntax)
		checkAssembleError(t, "nop;\n"+c.src, 2, c.col, api.ErrSyntax)
		checkAssembleError(t, "nop;\n"+c.src+"\nx 99999999999 y:y:", 2, c.col, api.ErrSyntax)
	}
}

func TestAssembleTextThatEndsTooEarly(t *testing.T) {
	text := "a: b: nop; add r1, r2, r3; li r1, -5; jmp a; sys b; addi r1, r2, a; beqz r1, 0; jr r15; halt: halt;"
	tokens, _, _ := hwlex.Scan(text)
	statements := 0
	for i := range tokens {
		src := hwlex.Format(tokens[:i])
		switch {
		case i == 0:
			checkAssembleError(t, src, 0, 0, api.ErrLimit)
		case tokens[i-1].Text == ";":
			statements++
			if p, pos, err := isa.Assemble(src); len(p) != statements || pos != (api.Pos{}) || err != api.OK {
				t.Errorf("%q: %v, error %d at %v", src, p, err, pos)
			}
		// A label that the colon has been cut off from is a word that is no mnemonic, except for halt.
		case tokens[i].Text == ":" && tokens[i-1].Text != "halt":
			checkAssembleError(t, src, 1, len(src)-len(tokens[i-1].Text)+1, api.ErrSyntax)
		default:
			checkAssembleError(t, src, 1, len(src)+1, api.ErrSyntax)
			checkAssembleError(t, src+"\r ", 1, len(src)+3, api.ErrSyntax)
			checkAssembleError(t, src+"\n\n\t# c", 3, 5, api.ErrSyntax)
			checkAssembleError(t, src+"\n", 2, 1, api.ErrSyntax)
		}
	}
}

func TestAssembleRangeErrors(t *testing.T) {
	for _, number := range []string{"2147483648", "0x80000000", "2G", "4294967295", "4294967296", "4294967297", "18446744073709551615"} {
		checkAssembleError(t, "li r1, "+number+" x", 1, 8, api.ErrRange)
		checkAssembleError(t, "addi r1, r2, "+number+";", 1, 14, api.ErrRange)
		checkAssembleError(t, "sys "+number, 1, 5, api.ErrRange)
		checkAssembleError(t, "jmp "+number+";", 1, 5, api.ErrRange)
		checkAssembleError(t, "beqz r1, "+number, 1, 10, api.ErrRange)
	}
	for _, number := range []string{"2147483649", "0x80000001", "3G", "4294967295", "4294967296", "18446744073709551615"} {
		checkAssembleError(t, "li r1, -"+number+" x", 1, 9, api.ErrRange)
		checkAssembleError(t, "ld r1, r2, -\n"+number+";", 2, 1, api.ErrRange)
		checkAssembleError(t, "sys - "+number, 1, 7, api.ErrRange)
	}
}

func TestAssembleLabelErrors(t *testing.T) {
	checkAssembleError(t, "x: x: nop;", 1, 4, api.ErrLabel)
	checkAssembleError(t, "x: x: ;", 1, 4, api.ErrLabel)
	checkAssembleError(t, "x: y: nop; z: nop; y:", 1, 20, api.ErrLabel)
	checkAssembleError(t, "x: nop;\nx: x: y", 2, 1, api.ErrLabel)
	checkAssembleError(t, "jmp x; jmp y; y: nop; z: nop; nop: z: nop;", 1, 36, api.ErrLabel)
	for _, src := range []string{"jmp x;", "sys x;"} {
		checkAssembleError(t, src, 1, 5, api.ErrLabel)
		checkAssembleError(t, "X: "+src+" y: nop;", 1, 8, api.ErrLabel)
	}
	checkAssembleError(t, "beqz r1, x;", 1, 10, api.ErrLabel)
	checkAssembleError(t, "li r1, x;", 1, 8, api.ErrLabel)
	checkAssembleError(t, "addi r1, r2, x;", 1, 14, api.ErrLabel)
}

func TestAssembleTargetErrors(t *testing.T) {
	checkAssemble(t, "jmp 0;", []api.Instr{{Op: api.InstrJmp}})
	checkAssemble(t, "nop; jmp 1;", []api.Instr{{Op: api.InstrNop}, {Op: api.InstrJmp, Imm: 1}})
	for _, number := range []string{"2", "3", "4096", "2147483647"} {
		checkAssembleError(t, "jmp "+number+"; nop;", 1, 5, api.ErrTarget)
		checkAssembleError(t, "nop; beqz r1, "+number+";", 1, 15, api.ErrTarget)
		checkAssembleError(t, "nop; bnez r1, "+number+";", 1, 15, api.ErrTarget)
		checkAssembleError(t, "nop;\njal r1,\n"+number+";", 3, 1, api.ErrTarget)
		n, _ := strconv.Atoi(number)
		checkAssemble(t, "sys "+number+"; nop;", []api.Instr{{Op: api.InstrSys, Imm: int32(n)}, {Op: api.InstrNop}})
	}
}

func TestAssembleFirstErrorByPosition(t *testing.T) {
	checkAssembleError(t, "li r1, 2G; x;", 1, 8, api.ErrRange)
	checkAssembleError(t, "x; li r1, 2G;", 1, 1, api.ErrSyntax)
	checkAssembleError(t, "x: nop; x: li r1, 2G;", 1, 9, api.ErrLabel)
	checkAssembleError(t, "x: li r1, 2G; x: nop;", 1, 11, api.ErrRange)
	// The errors that only the whole text tells come after all others, and among themselves by position.
	checkAssembleError(t, "jmp x; jmp 9; li r1, 2G;", 1, 22, api.ErrRange)
	checkAssembleError(t, "jmp x; jmp 9; y", 1, 15, api.ErrSyntax)
	checkAssembleError(t, "jmp x; jmp 9; y: nop; y: nop;", 1, 23, api.ErrLabel)
	checkAssembleError(t, "jmp x; jmp 9;", 1, 5, api.ErrLabel)
	checkAssembleError(t, "jmp 9; jmp x;", 1, 5, api.ErrTarget)
	checkAssembleError(t, "y: jmp y; sys x; jmp 9;", 1, 15, api.ErrLabel)
	checkAssembleError(t, "y: jmp y; jmp 0; jmp 9; sys x;", 1, 22, api.ErrTarget)
}

func TestAssembleLimit(t *testing.T) {
	for _, src := range []string{"", " \n", "# nop;", "#\n#"} {
		checkAssembleError(t, src, 0, 0, api.ErrLimit)
	}
	checkAssembleError(t, "x:", 1, 3, api.ErrSyntax)
	full := strings.Repeat("nop;", api.MaxProgram)
	checkAssemble(t, full, repeat(api.MaxProgram, api.Instr{Op: api.InstrNop}))
	last := full[4:] + "end: jmp end;"
	checkAssemble(t, last, append(repeat(api.MaxProgram-1, api.Instr{Op: api.InstrNop}), api.Instr{Op: api.InstrJmp, Imm: api.MaxProgram - 1}))
	for _, c := range []struct {
		rest string
		col  int
		want api.Errno
	}{
		{"nop;", 1, api.ErrLimit}, {"nop", 1, api.ErrLimit}, {"li 99999999999", 1, api.ErrLimit}, {"x: y: jmp x; z", 7, api.ErrLimit}, {"nop: nop;", 6, api.ErrLimit},
		{"x;", 1, api.ErrSyntax}, {"x: y;", 4, api.ErrSyntax}, {"nop:", 5, api.ErrSyntax}, {"x: x: nop;", 4, api.ErrLabel}, {"r1: nop;", 1, api.ErrSyntax}, {";", 1, api.ErrSyntax}, {"5", 1, api.ErrSyntax},
	} {
		checkAssembleError(t, full+"\n"+c.rest, 2, c.col, c.want)
	}
	checkAssembleError(t, "jmp x; jmp 4096;"+full, 1, 16+4*(api.MaxProgram-2)+1, api.ErrLimit)
	checkAssembleError(t, "jmp 4096;"+full[4:], 1, 5, api.ErrTarget)
}
