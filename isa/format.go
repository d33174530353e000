package isa

import (
	"strconv"

	"multikernel/api"
)

// The opcodes, which are the numbers of package api.
const (
	opHalt = iota
	opLi
	opLih
	opMov
	opAdd
	opSub
	opMul
	opDiv
	opRem
	opAnd
	opOr
	opXor
	opShl
	opShr
	opAddi
	opSlt
	opSltu
	opSeq
	opJmp
	opBeqz
	opBnez
	opJal
	opJr
	opLd
	opSt
	opSys
	opYield
	opNop
	opCount
)

// What an instruction holds in Imm.
const (
	immUnused = iota
	immNumber
	immTarget
)

// format describes an instruction. Its operands are the first of the registers A, B and C, and then Imm if it is used.
type format struct {
	mnemonic  string
	registers int
	imm       int
}

var formats = [opCount]format{
	opHalt:  {"halt", 0, immUnused},
	opLi:    {"li", 1, immNumber},
	opLih:   {"lih", 1, immNumber},
	opMov:   {"mov", 2, immUnused},
	opAdd:   {"add", 3, immUnused},
	opSub:   {"sub", 3, immUnused},
	opMul:   {"mul", 3, immUnused},
	opDiv:   {"div", 3, immUnused},
	opRem:   {"rem", 3, immUnused},
	opAnd:   {"and", 3, immUnused},
	opOr:    {"or", 3, immUnused},
	opXor:   {"xor", 3, immUnused},
	opShl:   {"shl", 3, immUnused},
	opShr:   {"shr", 3, immUnused},
	opAddi:  {"addi", 2, immNumber},
	opSlt:   {"slt", 3, immUnused},
	opSltu:  {"sltu", 3, immUnused},
	opSeq:   {"seq", 3, immUnused},
	opJmp:   {"jmp", 0, immTarget},
	opBeqz:  {"beqz", 1, immTarget},
	opBnez:  {"bnez", 1, immTarget},
	opJal:   {"jal", 1, immTarget},
	opJr:    {"jr", 1, immUnused},
	opLd:    {"ld", 2, immNumber},
	opSt:    {"st", 2, immNumber},
	opSys:   {"sys", 0, immNumber},
	opYield: {"yield", 0, immUnused},
	opNop:   {"nop", 0, immUnused},
}

// opcode returns the number of a mnemonic, if the word is one.
func opcode(word string) (int, bool) {
	for op, f := range formats {
		if f.mnemonic == word {
			return op, true
		}
	}
	return 0, false
}

// register returns the number of a register, if the word is one.
func register(word string) (int, bool) {
	for n := range api.MaxRegisters {
		if registerWord(n) == word {
			return n, true
		}
	}
	return 0, false
}

func registerWord(n int) string { return "r" + strconv.Itoa(n) }
