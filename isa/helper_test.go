package isa_test

import (
	"encoding/binary"
	"math"
	"math/rand"
	"slices"
	"testing"

	"multikernel/api"
	"multikernel/isa"
)

func pick[T any](r *rand.Rand, list []T) T { return list[r.Intn(len(list))] }

// example returns an instruction that is valid in any program, with a different number for each operand that it uses.
func example(op int) api.Instr {
	in := api.Instr{Op: op}
	s := shapes[op]
	if s.uses("A") {
		in.A = 15
	}
	if s.uses("B") {
		in.B = 7
	}
	if s.uses("C") {
		in.C = 1
	}
	if s.uses("Imm") {
		in.Imm = -300
	}
	return in
}

// examples returns a program with each of the 28 instructions, in the order of their numbers.
func examples() []api.Instr {
	var p []api.Instr
	for op := range shapes {
		p = append(p, example(op))
	}
	return p
}

// repeat returns a program of n equal instructions.
func repeat(n int, in api.Instr) []api.Instr { return slices.Repeat([]api.Instr{in}, n) }

func randomImm(r *rand.Rand) int32 {
	return pick(r, []int32{0, 1, -1, 15, math.MaxInt32, math.MinInt32, int32(r.Uint32()), int32(r.Uint32()) >> r.Intn(32)})
}

// randomProgram returns a program without errors.
func randomProgram(r *rand.Rand) []api.Instr {
	p := make([]api.Instr, pick(r, []int{1, 2, 3, 1 + r.Intn(12), 1 + r.Intn(60)}))
	for i := range p {
		op := r.Intn(28)
		s := shapes[op]
		in := api.Instr{Op: op}
		for name, field := range map[string]*int{"A": &in.A, "B": &in.B, "C": &in.C} {
			if s.uses(name) {
				*field = -1 // for the numbers must not depend on the order of the map
			}
		}
		for _, field := range []*int{&in.A, &in.B, &in.C} {
			if n := r.Intn(16); *field == -1 {
				*field = n
			}
		}
		switch imm := randomImm(r); {
		case s.uses("Imm"):
			in.Imm = imm
		case s.uses("target"):
			in.Imm = int32(r.Intn(len(p)))
		}
		p[i] = in
	}
	return p
}

// spoil changes one field of an instruction of p, to a value that may still be valid.
func spoil(r *rand.Rand, p []api.Instr) {
	in := &p[r.Intn(len(p))]
	field := pick(r, []*int{&in.Op, &in.A, &in.B, &in.C})
	if r.Intn(4) == 0 {
		in.Imm = pick(r, []int32{-1, 0, 1, int32(len(p) - 1), int32(len(p)), randomImm(r)})
		return
	}
	*field = pick(r, []int{-1, 0, 1, 15, 16, 27, 28, 255, 256, 1 << 32, 1<<32 + 1, -1 << 32, math.MaxInt, math.MinInt, r.Intn(32)})
}

func encoded(p []api.Instr) []byte {
	var b []byte
	for _, in := range p {
		b = append(b, byte(in.Op), byte(in.A), byte(in.B), byte(in.C))
		b = binary.LittleEndian.AppendUint32(b, uint32(in.Imm))
	}
	return b
}

// checkProgram checks what all functions do with a program that may have an error.
func checkProgram(t *testing.T, p []api.Instr, want api.Errno) {
	t.Helper()
	if err := isa.Validate(p); err != want {
		t.Errorf("Validate(%.5v): error %d, want %d", p, err, want)
	}
	b, err := isa.Encode(p)
	text := isa.Disassemble(p)
	if want != api.OK {
		if len(b) != 0 || err != want || text != "" {
			t.Errorf("Encode(%.5v): %d bytes, error %d, want %d; Disassemble: %d bytes", p, len(b), err, want, len(text))
		}
		return
	}
	if err != api.OK || !slices.Equal(b, encoded(p)) {
		t.Errorf("Encode(%.5v): % x, error %d", p, b, err)
	}
	if reference := referenceText(p); text != reference {
		t.Errorf("Disassemble(%.5v): %q, want %q", p, text, reference)
	}
	checkDecode(t, b, p)
	if len(text) <= api.MaxTextLen {
		checkAssemble(t, text, p)
	}
}

func checkDecode(t *testing.T, b []byte, want []api.Instr) {
	t.Helper()
	if got, err := isa.Decode(b); err != api.OK || !slices.Equal(got, want) {
		t.Errorf("Decode(% .40x): %.5v, error %d, want %.5v", b, got, err, want)
	}
}

// checkDecodeError checks that Decode returns an error and nothing else.
func checkDecodeError(t *testing.T, b []byte, want api.Errno) {
	t.Helper()
	if got, err := isa.Decode(b); err != want || len(got) != 0 {
		t.Errorf("Decode(% .40x): %.5v, error %d, want %d", b, got, err, want)
	}
}

func checkAssemble(t *testing.T, src string, want []api.Instr) {
	t.Helper()
	got, pos, err := isa.Assemble(src)
	if err != api.OK || pos != (api.Pos{}) || !slices.Equal(got, want) {
		t.Errorf("%.80q: %.5v, error %d at %v, want %.5v", src, got, err, pos, want)
	}
}

// checkAssembleError checks that Assemble returns nothing but an error and its position.
func checkAssembleError(t *testing.T, src string, line, col int, want api.Errno) {
	t.Helper()
	got, pos, err := isa.Assemble(src)
	if len(got) != 0 || err != want || pos != (api.Pos{Line: line, Col: col}) {
		t.Errorf("%.80q: %.5v, error %d at %v, want %d at %d:%d", src, got, err, pos, want, line, col)
	}
}
