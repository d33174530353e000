package isa_test

import (
	"fmt"
	"regexp"
	"slices"
	"strconv"
	"strings"

	"multikernel/api"
	"multikernel/hwlex"
)

// This file is a second reading of chapter 9, which has nothing in common with the package.

const chapterTable = `
| 0 | halt | | 14 | addi | A, B, Imm |
| 1 | li | A, Imm | 15 | slt | A, B, C |
| 2 | lih | A, Imm | 16 | sltu | A, B, C |
| 3 | mov | A, B | 17 | seq | A, B, C |
| 4 | add | A, B, C | 18 | jmp | target |
| 5 | sub | A, B, C | 19 | beqz | A, target |
| 6 | mul | A, B, C | 20 | bnez | A, target |
| 7 | div | A, B, C | 21 | jal | A, target |
| 8 | rem | A, B, C | 22 | jr | A |
| 9 | and | A, B, C | 23 | ld | A, B, Imm |
| 10 | or | A, B, C | 24 | st | A, B, Imm |
| 11 | xor | A, B, C | 25 | sys | Imm |
| 12 | shl | A, B, C | 26 | yield | |
| 13 | shr | A, B, C | 27 | nop | |
`

// shape is a row of the table.
type shape struct {
	mnemonic string
	operands []string
}

func (s shape) uses(operand string) bool { return slices.Contains(s.operands, operand) }

var shapes = readTable(chapterTable)

func readTable(table string) []shape {
	list := make([]shape, 28)
	for _, line := range strings.Split(strings.TrimSpace(table), "\n") {
		cells := strings.Split(line, "|")
		for _, c := range [][]string{cells[1:4], cells[4:7]} {
			op, err := strconv.Atoi(strings.TrimSpace(c[0]))
			if err != nil {
				panic(err)
			}
			list[op].mnemonic = strings.TrimSpace(c[1])
			list[op].operands = strings.FieldsFunc(c[2], func(r rune) bool { return r == ',' || r == ' ' })
		}
	}
	return list
}

// referenceError returns the error of Validate.
func referenceError(p []api.Instr) api.Errno {
	if len(p) < 1 || len(p) > 4096 {
		return api.ErrLimit
	}
	for _, in := range p {
		if !referenceOperandsFit(in) {
			return api.ErrOpcode
		}
		if shapes[in.Op].uses("target") && (in.Imm < 0 || int(in.Imm) > len(p)-1) {
			return api.ErrTarget
		}
	}
	return api.OK
}

func referenceOperandsFit(in api.Instr) bool {
	if in.Op < 0 || in.Op > 27 {
		return false
	}
	s := shapes[in.Op]
	for name, value := range map[string]int{"A": in.A, "B": in.B, "C": in.C} {
		if value < 0 || value > 15 || value != 0 && !s.uses(name) {
			return false
		}
	}
	return in.Imm == 0 || s.uses("Imm") || s.uses("target")
}

// referenceText returns the text of a program without errors.
func referenceText(p []api.Instr) string {
	var text strings.Builder
	for i, in := range p {
		jumps := func(from api.Instr) bool { return shapes[from.Op].uses("target") && int(from.Imm) == i }
		if slices.ContainsFunc(p, jumps) {
			fmt.Fprintf(&text, "L%d: ", i)
		}
		s := shapes[in.Op]
		line := s.mnemonic + " " + strings.Join(s.operands, ", ")
		for name, value := range map[string]string{"A": fmt.Sprintf("r%d", in.A), "B": fmt.Sprintf("r%d", in.B), "C": fmt.Sprintf("r%d", in.C),
			"Imm": fmt.Sprint(in.Imm), "target": fmt.Sprintf("L%d", in.Imm)} {
			line = regexp.MustCompile(`\b`+name+`\b`).ReplaceAllString(line, value)
		}
		text.WriteString(strings.TrimSpace(line) + ";\n")
	}
	return text.String()
}

// letters encodes each token as one letter: a to i are mnemonics by their operands, w is another word, r a register, n a
// number and ? what the grammar does not use. The letter of a word ahead of a colon is a capital.
func letters(tokens []api.Token) string {
	classes := []string{"", "A Imm", "A B", "A B C", "A B Imm", "target", "A target", "A", "Imm"}
	registerForm := regexp.MustCompile(`^r([0-9]|1[0-5])$`)
	var s string
	for i, t := range tokens {
		letter := "?"
		switch {
		case t.Kind == api.TokenWord && registerForm.MatchString(t.Text):
			letter = "r"
		case t.Kind == api.TokenWord:
			letter = "w"
			if op := slices.IndexFunc(shapes, func(s shape) bool { return s.mnemonic == t.Text }); op >= 0 {
				letter = "abcdefghi"[slices.Index(classes, strings.Join(shapes[op].operands, " ")):][:1]
			}
		case t.Kind == api.TokenNumber:
			letter = "n"
		case t.Kind == api.TokenPunct && strings.Contains("-:,;", t.Text):
			letter = t.Text
		}
		if t.Kind == api.TokenWord && i+1 < len(tokens) && tokens[i+1].Kind == api.TokenPunct && tokens[i+1].Text == ":" {
			letter = strings.ToUpper(letter)
		}
		s += letter
	}
	return s
}

const (
	labelForm  = `[WA-I]:`
	usedForm   = `[wWa-iA-I]`
	immForm    = `(-?n|` + usedForm + `)`
	targetForm = `(n|` + usedForm + `)`
	instrForm  = `(a|br,` + immForm + `|cr,r|dr,r,r|er,r,` + immForm + `|f` + targetForm + `|gr,` + targetForm + `|hr|i` + immForm + `)`
)

var (
	// In an operand's place a register is one even ahead of a colon, which then does not fit.
	instruction = strings.ReplaceAll(instrForm, "r", "[rR]")
	statement   = regexp.MustCompile(`(` + labelForm + `)*` + instruction + `;`)
	sentence    = regexp.MustCompile(`^((` + labelForm + `)*` + instruction + `;)*$`)
	labelPlace  = regexp.MustCompile(`^((` + labelForm + `)*` + instruction + `;)*(` + labelForm + `)*$`)
)

// misfit returns the index of the first token that does not fit the grammar, len(s) if only the end does not fit, or -1.
func misfit(s string) int {
	for n := 0; n <= len(s); n++ {
		viable := false
		for _, rest := range []string{"", "a;", ":a;", ";", "n;", ",n;", "r;", ",r;", "r,r;", ",r,r;", "r,r,r;", "r,n;", ",r,n;", "r,r,n;"} {
			viable = viable || sentence.MatchString(s[:n]+rest)
		}
		if !viable {
			return n - 1
		}
	}
	if !sentence.MatchString(s) {
		return len(s)
	}
	return -1
}

// textError returns the first error of the text and the index of its token, or OK.
func textError(tokens []api.Token, s string) (int, api.Errno) {
	bad := misfit(s)
	defined := map[string]bool{}
	instructions := 0
	for i, t := range tokens {
		limit := uint64(1<<31 - 1)
		if i > 0 && s[i-1] == '-' {
			limit = 1 << 31
		}
		starts := (s[i] >= 'A' && s[i] <= 'Z' || s[i] >= 'a' && s[i] <= 'i') && labelPlace.MatchString(s[:i])
		switch {
		case i == bad:
			return i, api.ErrSyntax
		case s[i] == 'n' && t.Value > limit:
			return i, api.ErrRange
		case starts && s[i] < 'a':
			if defined[t.Text] {
				return i, api.ErrLabel
			}
			defined[t.Text] = true
		case starts:
			if instructions++; instructions > 4096 {
				return i, api.ErrLimit
			}
		}
	}
	if bad >= 0 {
		return bad, api.ErrSyntax
	}
	return 0, api.OK
}

// referenceAssemble reads src as P9.5 says it: first the errors of the list of tokens, then the statements one by one.
func referenceAssemble(src string) ([]api.Instr, api.Pos, api.Errno) {
	tokens, pos, err := hwlex.Scan(src)
	if err != api.OK {
		return nil, pos, err
	}
	s := letters(tokens)
	if bad, err := textError(tokens, s); err != api.OK {
		lines := strings.Split(src, "\n")
		end := api.Token{Pos: api.Pos{Line: len(lines), Col: len(lines[len(lines)-1]) + 1}}
		return nil, append(tokens, end)[bad].Pos, err
	}
	statements := statement.FindAllStringIndex(s, -1)
	if len(statements) == 0 {
		return nil, api.Pos{}, api.ErrLimit
	}
	labels := map[string]int64{}
	for index, at := range statements {
		for i := at[0]; i < at[1]; i++ {
			if s[i] == ':' {
				labels[tokens[i-1].Text] = int64(index)
			}
		}
	}
	var p []api.Instr
	for _, at := range statements {
		start := at[0] + strings.LastIndex(s[at[0]:at[1]], ":") + 1
		in, pos, err := referenceInstr(tokens[start:at[1]-1], labels, int64(len(statements)))
		if err != api.OK {
			return nil, pos, err
		}
		p = append(p, in)
	}
	return p, api.Pos{}, api.OK
}

// referenceInstr returns the instruction of the tokens from its mnemonic on, without the semicolon.
func referenceInstr(tokens []api.Token, labels map[string]int64, length int64) (api.Instr, api.Pos, api.Errno) {
	op := slices.IndexFunc(shapes, func(s shape) bool { return s.mnemonic == tokens[0].Text })
	in := api.Instr{Op: op}
	last := tokens[len(tokens)-1]
	value, known := labels[last.Text]
	if last.Kind == api.TokenNumber {
		value, known = int64(last.Value), true
		if tokens[len(tokens)-2].Text == "-" {
			value = -value
		}
	}
	for i, name := range shapes[op].operands {
		number, _ := strconv.Atoi(strings.TrimPrefix(tokens[1+2*i].Text, "r"))
		switch name {
		case "A":
			in.A = number
		case "B":
			in.B = number
		case "C":
			in.C = number
		default:
			if !known {
				return api.Instr{}, last.Pos, api.ErrLabel
			}
			if name == "target" && value >= length {
				return api.Instr{}, last.Pos, api.ErrTarget
			}
			in.Imm = int32(value)
		}
	}
	return in, api.Pos{}, api.OK
}
