package isa

import (
	"math"
	"strings"

	"multikernel/api"
	"multikernel/hwlex"
)

// Assemble returns the program whose assembly text is src, or the position of the first error.
func Assemble(src string) ([]api.Instr, api.Pos, api.Errno) {
	tokens, pos, err := hwlex.Scan(src)
	if err != api.OK {
		return nil, pos, err
	}
	return assemble(append(tokens, api.Token{Kind: endOfText, Pos: endPos(src)}))
}

// endOfText is the kind of a token behind the last one, which lets the assembler look ahead without a check.
const endOfText = 0

func endPos(src string) api.Pos {
	return api.Pos{Line: 1 + strings.Count(src, "\n"), Col: len(src) - strings.LastIndexByte(src, '\n')}
}

// failure is what the assembler throws at the first error.
type failure struct {
	pos api.Pos
	err api.Errno
}

func throw(at api.Token, err api.Errno) { panic(failure{at.Pos, err}) }

func assemble(tokens []api.Token) (p []api.Instr, pos api.Pos, err api.Errno) {
	defer func() {
		if f, thrown := recover().(failure); thrown {
			p, pos, err = nil, f.pos, f.err
		}
	}()
	a := assembler{tokens: tokens, labels: map[string]int{}}
	a.statements()
	a.resolve()
	return a.program, api.Pos{}, api.OK
}

// assembler holds the tokens that are left, the instructions and labels before them, and the operands whose meaning only
// the whole text tells. Its methods throw a failure at a token that does not fit.
type assembler struct {
	tokens  []api.Token
	program []api.Instr
	labels  map[string]int
	open    []reference
}

// reference is an operand that is a label or a target, and the index of its instruction.
type reference struct {
	operand api.Token
	index   int
}

func (a *assembler) statements() {
	for a.tokens[0].Kind != endOfText {
		for a.atLabel() {
			a.label()
		}
		a.instruction()
	}
	if len(a.program) == 0 {
		throw(api.Token{}, api.ErrLimit)
	}
}

// atLabel reports whether a word comes next that is defined there.
func (a *assembler) atLabel() bool {
	return a.tokens[0].Kind == api.TokenWord && isMark(a.tokens[1], ":")
}

func (a *assembler) label() {
	t := a.take(api.TokenWord)
	if _, ok := register(t.Text); ok {
		throw(t, api.ErrSyntax)
	}
	if _, twice := a.labels[t.Text]; twice {
		throw(t, api.ErrLabel)
	}
	a.labels[t.Text] = len(a.program)
	a.mark(":")
}

func (a *assembler) instruction() {
	t := a.take(api.TokenWord)
	op, ok := opcode(t.Text)
	if !ok {
		throw(t, api.ErrSyntax)
	}
	if len(a.program) == api.MaxProgram {
		throw(t, api.ErrLimit)
	}
	in := a.operands(formats[op])
	in.Op = op
	a.mark(";")
	a.program = append(a.program, in)
}

// operands returns an instruction with the operands that come next.
func (a *assembler) operands(f format) api.Instr {
	var r [3]int
	for i := range f.registers {
		a.comma(i)
		r[i] = a.register()
	}
	in := api.Instr{A: r[0], B: r[1], C: r[2]}
	switch f.imm {
	case immNumber:
		a.comma(f.registers)
		in.Imm = a.immediate()
	case immTarget:
		a.comma(f.registers)
		in.Imm = a.target()
	}
	return in
}

// comma passes over the comma ahead of the operand i. There is none ahead of the first one.
func (a *assembler) comma(i int) {
	if i > 0 {
		a.mark(",")
	}
}

func (a *assembler) register() int {
	t := a.take(api.TokenWord)
	n, ok := register(t.Text)
	if !ok {
		throw(t, api.ErrSyntax)
	}
	return n
}

func (a *assembler) immediate() int32 {
	switch {
	case a.tokens[0].Kind == api.TokenWord:
		a.labelUse()
		return 0
	case a.skip("-"):
		return int32(-int64(a.number(1 << 31)))
	}
	return int32(a.number(math.MaxInt32))
}

func (a *assembler) target() int32 {
	if a.tokens[0].Kind == api.TokenWord {
		a.labelUse()
		return 0
	}
	a.keep(a.tokens[0])
	return int32(a.number(math.MaxInt32))
}

// labelUse passes over a label that stands for an index, which may be that of a later instruction.
func (a *assembler) labelUse() {
	t := a.take(api.TokenWord)
	if _, ok := register(t.Text); ok {
		throw(t, api.ErrSyntax)
	}
	a.keep(t)
}

// keep puts an operand of the instruction that is being read aside until the whole text is read.
func (a *assembler) keep(operand api.Token) {
	a.open = append(a.open, reference{operand, len(a.program)})
}

func (a *assembler) number(greatest uint64) uint64 {
	t := a.take(api.TokenNumber)
	if t.Value > greatest {
		throw(t, api.ErrRange)
	}
	return t.Value
}

// resolve replaces labels by the indices that they denote, and checks the targets that are numbers.
func (a *assembler) resolve() {
	for _, r := range a.open {
		if r.operand.Kind == api.TokenWord {
			index, ok := a.labels[r.operand.Text]
			if !ok {
				throw(r.operand, api.ErrLabel)
			}
			a.program[r.index].Imm = int32(index)
		} else if r.operand.Value >= uint64(len(a.program)) {
			throw(r.operand, api.ErrTarget)
		}
	}
}

func (a *assembler) mark(text string) {
	if !a.skip(text) {
		throw(a.tokens[0], api.ErrSyntax)
	}
}

// skip passes over a punctuation mark if it comes next, and reports whether it did.
func (a *assembler) skip(text string) bool {
	if !isMark(a.tokens[0], text) {
		return false
	}
	a.tokens = a.tokens[1:]
	return true
}

func (a *assembler) take(kind int) api.Token {
	t := a.tokens[0]
	if t.Kind != kind {
		throw(t, api.ErrSyntax)
	}
	a.tokens = a.tokens[1:]
	return t
}

func isMark(t api.Token, text string) bool { return t.Kind == api.TokenPunct && t.Text == text }
