package isa_test

import (
	"math"
	"math/rand"
	"slices"
	"strings"
	"sync"
	"testing"

	"multikernel/api"
	"multikernel/isa"
)

// results are those of one call of each function.
type results struct {
	bytes     []byte
	decoded   []api.Instr
	assembled []api.Instr
	text      string
	pos       api.Pos
	errors    [4]api.Errno
}

func callAll(p []api.Instr, b []byte, src string) results {
	var s results
	s.errors[0] = isa.Validate(p)
	s.bytes, s.errors[1] = isa.Encode(p)
	s.decoded, s.errors[2] = isa.Decode(b)
	s.assembled, s.pos, s.errors[3] = isa.Assemble(src)
	s.text = isa.Disassemble(p)
	return s
}

func sameResults(a, b results) bool {
	return slices.Equal(a.bytes, b.bytes) && slices.Equal(a.decoded, b.decoded) && slices.Equal(a.assembled, b.assembled) &&
		a.text == b.text && a.pos == b.pos && a.errors == b.errors
}

// R1: all functions return, whatever the arguments are.
func TestAnyArguments(t *testing.T) {
	r := rand.New(rand.NewSource(6))
	odd := []int{math.MinInt, -1 << 32, -256, -1, 0, 1, 2, 15, 16, 27, 28, 255, 256, 4096, 1 << 31, 1 << 32, math.MaxInt}
	for range 20000 {
		p := make([]api.Instr, r.Intn(4))
		for i := range p {
			p[i] = api.Instr{Op: pick(r, odd), A: pick(r, odd), B: pick(r, odd), C: pick(r, odd), Imm: int32(pick(r, odd))}
		}
		b := make([]byte, r.Intn(40))
		r.Read(b)
		text := make([]byte, r.Intn(40))
		for i := range text {
			text[i] = pick(r, []byte("nop;:,-r15 x\n#\"\\\x00\xFF>."))
		}
		if s := callAll(p, b, string(text)); s.errors[0] != referenceError(p) {
			t.Fatalf("%v: error %d", p, s.errors[0])
		}
		callAll(p, text, string(b))
	}
}

// R1: a long text without a correct statement.
func TestLongTexts(t *testing.T) {
	for _, part := range []string{"a:", "x ", "- ", "1 ", "nop;", "jmp x;", ";", "\n", "li r1,x;"} {
		src := strings.Repeat(part, api.MaxTextLen/len(part))
		if p, _, err := isa.Assemble(src); len(p) != 0 || err == api.OK {
			t.Errorf("%q: %d instructions, error %d", part, len(p), err)
		}
	}
}

// R4: a call writes nothing into an argument, not even beyond the end of a list, and a result that is overwritten changes
// neither an argument nor a later result.
func TestResultsAreNewMemory(t *testing.T) {
	r := rand.New(rand.NewSource(7))
	for range 1000 {
		p := randomProgram(r)
		b := encoded(p)
		src := referenceText(p)
		p = append(p, api.Instr{Op: 77})[:len(p)]
		b = append(b, "\x77\x77\x77\x77\x77\x77\x77\x77"...)[:len(b)]
		wasP, wasB := slices.Clone(p[:len(p)+1]), slices.Clone(b[:len(b)+8])
		want, spoiled := callAll(p, b, src), callAll(p, b, src)
		if want.errors != [4]api.Errno{} {
			t.Fatal(p, want.errors)
		}
		clear(spoiled.bytes[:cap(spoiled.bytes)])
		clear(spoiled.decoded[:cap(spoiled.decoded)])
		clear(spoiled.assembled[:cap(spoiled.assembled)])
		if !slices.Equal(p[:len(p)+1], wasP) || !slices.Equal(b[:len(b)+8], wasB) {
			t.Error("an argument is changed")
		}
		if !sameResults(callAll(p, b, src), want) {
			t.Error("a result is changed")
		}
	}
}

// R5: calls at the same time are not visible.
func TestResultsDependOnArgumentsOnly(t *testing.T) {
	r := rand.New(rand.NewSource(8))
	for range 100 {
		p := randomProgram(r)
		b := encoded(randomProgram(r))
		src := randomText(r, randomTokens(r))
		want := callAll(p, b, src)
		var group sync.WaitGroup
		for range 4 {
			group.Go(func() {
				for range 5 {
					if !sameResults(callAll(p, b, src), want) {
						t.Error("another result")
					}
				}
			})
		}
		group.Wait()
	}
}
