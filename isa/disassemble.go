package isa

import (
	"strconv"
	"strings"

	"multikernel/api"
)

// Disassemble returns the text of a program, or the empty string if it is not valid.
func Disassemble(p []api.Instr) string {
	if Validate(p) != api.OK {
		return ""
	}
	targets := targetsOf(p)
	var text strings.Builder
	for i, in := range p {
		if targets[i] {
			text.WriteString(labelWord(i) + ": ")
		}
		text.WriteString(formats[in.Op].mnemonic)
		if operands := operandWords(in); len(operands) > 0 {
			text.WriteString(" " + strings.Join(operands, ", "))
		}
		text.WriteString(";\n")
	}
	return text.String()
}

// targetsOf tells for each index whether an instruction has it as its target.
func targetsOf(p []api.Instr) []bool {
	targets := make([]bool, len(p))
	for _, in := range p {
		if formats[in.Op].imm == immTarget {
			targets[in.Imm] = true
		}
	}
	return targets
}

// operandWords returns the texts of an instruction's operands.
func operandWords(in api.Instr) []string {
	f := formats[in.Op]
	var words []string
	for i, r := range registers(in) {
		if i < f.registers {
			words = append(words, registerWord(r))
		}
	}
	switch f.imm {
	case immNumber:
		words = append(words, strconv.Itoa(int(in.Imm)))
	case immTarget:
		words = append(words, labelWord(int(in.Imm)))
	}
	return words
}

func labelWord(index int) string { return "L" + strconv.Itoa(index) }
