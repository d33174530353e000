package isa_test

import (
	"math/rand"
	"slices"
	"strconv"
	"strings"
	"testing"

	"multikernel/api"
	"multikernel/isa"
)

// randomOperand returns the tokens of an operand, as a rule one that fits.
func randomOperand(r *rand.Rand, kind string) []string {
	use := pick(r, []string{"x", "y", "z", "nop", "r16"})
	small := strconv.Itoa(r.Intn(5))
	switch {
	case kind == "Imm" && r.Intn(3) > 0:
		return pick(r, [][]string{{small}, {"-", small}, {"2147483647"}, {"-", "2147483648"}, {"2147483648"}, {"-", "2147483649"}, {"0x10"}})
	case kind == "target" && r.Intn(3) > 0:
		return pick(r, [][]string{{small}, {small}, {small}, {"2147483647"}, {"2147483648"}})
	case kind == "Imm" || kind == "target":
		return []string{use}
	}
	return []string{"r" + strconv.Itoa(r.Intn(16))}
}

// randomTokens returns the tokens of a text that is nearly correct: some of its tokens are lost, replaced or new.
func randomTokens(r *rand.Rand) []string {
	var tokens []string
	labels := []string{"x", "y", "z", "nop", "r16"}
	for range r.Intn(5) {
		for r.Intn(3) == 0 {
			tokens = append(tokens, labels[0], ":")
			labels = append(labels[1:], pick(r, []string{"x", "a", "halt"}))
		}
		s := pick(r, shapes)
		tokens = append(tokens, s.mnemonic)
		for i, kind := range s.operands {
			if i > 0 {
				tokens = append(tokens, ",")
			}
			tokens = append(tokens, randomOperand(r, kind)...)
		}
		tokens = append(tokens, ";")
	}
	for r.Intn(2) == 0 {
		at := r.Intn(len(tokens) + 1)
		lost := r.Intn(2)
		var added []string
		if r.Intn(2) == 0 {
			added = []string{pick(r, []string{":", ";", ",", "-", "x", "y", "w", "r0", "r15", "r16", "li", "jmp", "nop", "3", "99999999999", `"x"`, ".", "->"})}
		}
		tokens = slices.Replace(tokens, at, min(at+lost, len(tokens)), added...)
	}
	return tokens
}

// randomText returns the tokens with white space and comments between them.
func randomText(r *rand.Rand, tokens []string) string {
	var text strings.Builder
	for _, token := range tokens {
		text.WriteString(token + pick(r, []string{" ", " ", " ", "\n", "\t", "\r\n", " # nop;\n", "  "}))
	}
	return strings.TrimSuffix(text.String(), " ")
}

// checkAgainstReference checks what Assemble returns for src, and returns its error.
func checkAgainstReference(t *testing.T, src string) api.Errno {
	t.Helper()
	want, wantPos, wantErr := referenceAssemble(src)
	got, pos, err := isa.Assemble(src)
	if !slices.Equal(got, want) || pos != wantPos || err != wantErr {
		t.Fatalf("%q: %v, error %d at %v, want %v, error %d at %v", src, got, err, pos, want, wantErr, wantPos)
	}
	return err
}

func TestAssembleAgainstReference(t *testing.T) {
	r := rand.New(rand.NewSource(5))
	count := map[api.Errno]int{}
	for range 60000 {
		count[checkAgainstReference(t, randomText(r, randomTokens(r)))]++
	}
	for _, err := range []api.Errno{api.OK, api.ErrSyntax, api.ErrRange, api.ErrLabel, api.ErrTarget, api.ErrLimit} {
		if count[err] < 500 {
			t.Error(err, count)
		}
	}
}

// All texts of up to three tokens, of those that differ for the grammar.
func TestAssembleShortTexts(t *testing.T) {
	words := []string{"halt", "sys", "jmp", "jr", "x", "r1", "r16", "0", "-", ":", ",", ";", "(", `"s"`, "2147483648", "2147483649"}
	texts := []string{""}
	for range 3 {
		var longer []string
		for _, text := range texts {
			for _, word := range words {
				longer = append(longer, text+word+" ")
			}
		}
		for _, src := range longer {
			checkAgainstReference(t, src)
		}
		texts = longer
	}
}
