package hwlex_test

import (
	"math/big"
	"math/rand"
	"regexp"
	"slices"
	"strings"
	"testing"

	"multikernel/api"
	"multikernel/hwlex"
)

// The reference reads chapter 2 as regular expressions, with positions counted anew for each token.
var (
	blank      = regexp.MustCompile(`^(?:[ \t\n\r]|#[^\n]*)`)
	wordForm   = regexp.MustCompile(`^[A-Za-z_][A-Za-z0-9_]*`)
	digitForm  = regexp.MustCompile(`^[0-9][A-Za-z0-9_]*`)
	numberForm = regexp.MustCompile(`^(0|[1-9][0-9]*|0x[0-9a-fA-F]+)([KMG]?)$`)
	stringForm = regexp.MustCompile(`^"[ !#-\[\]-~]*"`)
	punctForm  = regexp.MustCompile(`^(?:<=|>=|!=|\.\.|->|[-{}()\[\],;:=<>!+*?./])`)
)

func referenceNumber(s string) (uint64, api.Errno) {
	parts := numberForm.FindStringSubmatch(s)
	if parts == nil {
		return 0, api.ErrSyntax
	}
	value, _ := new(big.Int).SetString(parts[1], 0)
	value.Lsh(value, map[string]uint{"": 0, "K": 10, "M": 20, "G": 30}[parts[2]])
	if !value.IsUint64() {
		return 0, api.ErrRange
	}
	return value.Uint64(), api.OK
}

func referenceToken(s string) (api.Token, int, api.Errno) {
	if w := wordForm.FindString(s); w != "" {
		return word(w), len(w), api.OK
	}
	if d := digitForm.FindString(s); d != "" {
		v, err := referenceNumber(d)
		return number(v), len(d), err
	}
	if q := stringForm.FindString(s); q != "" {
		return text(q[1 : len(q)-1]), len(q), api.OK
	}
	if p := punctForm.FindString(s); p != "" {
		return punct(p), len(p), api.OK
	}
	return api.Token{}, 0, api.ErrSyntax
}

func reference(src string) ([]api.Token, api.Pos, api.Errno) {
	var tokens []api.Token
	for i := 0; i < len(src); {
		if b := blank.FindString(src[i:]); b != "" {
			i += len(b)
			continue
		}
		pos := api.Pos{Line: 1 + strings.Count(src[:i], "\n"), Col: i - strings.LastIndex(src[:i], "\n")}
		token, n, err := referenceToken(src[i:])
		if err != api.OK {
			return nil, pos, err
		}
		tokens = append(tokens, at(pos.Line, pos.Col, token))
		i += n
	}
	return tokens, api.Pos{}, api.OK
}

func checkReference(t *testing.T, src string) {
	t.Helper()
	got, pos, err := hwlex.Scan(src)
	want, wantPos, wantErr := reference(src)
	if err != wantErr || pos != wantPos || !slices.Equal(got, want) {
		t.Fatalf("%q: %v, error %d at %v, want %v, %d at %v", src, got, err, pos, want, wantErr, wantPos)
	}
}

func TestAllShortTexts(t *testing.T) {
	for a := range 256 {
		checkReference(t, string([]byte{byte(a)}))
		for b := range 256 {
			checkReference(t, string([]byte{byte(a), byte(b)}))
		}
	}
	const some = "aKx_019 \n#\"\\<>=!.-;$\x80"
	for _, a := range []byte(some) {
		for _, b := range []byte(some) {
			for _, c := range []byte(some) {
				for _, d := range []byte(some) {
					checkReference(t, string([]byte{a, b, c, d}))
				}
			}
		}
	}
}

func TestRandomTexts(t *testing.T) {
	random := rand.New(rand.NewSource(2))
	pieces := []string{
		" ", "\t", "\n", "\r", "# c \"\n", "a", "core", "_x9", "0", "7", "10K", "0x1fM", "18446744073709551615", "18446744073709551616",
		"0xffffffffffffffff", "17179869183G", "\"\"", "\"s t\"", "\"", "->", "..", "<=", ">=", "!=", "<", ">", "!", "-", ".", "=", "{", "}", ";", "/", "?", "$",
	}
	for range 40000 {
		var src strings.Builder
		for range random.Intn(12) {
			src.WriteString(pieces[random.Intn(len(pieces))])
		}
		checkReference(t, src.String())
	}
}

// randomToken returns a well-formed token.
func randomToken(random *rand.Rand) api.Token {
	const wordBytes = "_abcXYZ0123456789"
	switch random.Intn(4) {
	case 0:
		b := []byte{wordBytes[random.Intn(7)]}
		for range random.Intn(30) {
			b = append(b, wordBytes[random.Intn(len(wordBytes))])
		}
		return word(string(b))
	case 1:
		return number(random.Uint64() >> random.Intn(64))
	case 2:
		var b []byte
		for range random.Intn(30) {
			if c := byte(32 + random.Intn(95)); c != '"' && c != '\\' {
				b = append(b, c)
			}
		}
		return text(string(b))
	}
	return punct(marks()[random.Intn(len(marks()))])
}

// P2.5

func TestScanOfFormat(t *testing.T) {
	random := rand.New(rand.NewSource(5))
	for range 5000 {
		var tokens []api.Token
		for range random.Intn(20) {
			tokens = append(tokens, randomToken(random))
		}
		checkTokens(t, hwlex.Format(tokens), tokens...)
	}
	for _, a := range marks() {
		for _, b := range marks() {
			checkTokens(t, hwlex.Format([]api.Token{punct(a), punct(b)}), punct(a), punct(b))
		}
	}
}

func TestSpaceHasNoEffect(t *testing.T) {
	random := rand.New(rand.NewSource(6))
	spaces := []string{" ", "\t", "\n", "\r", "#\n", "# \" $ 1a \xff\n", "\r\n", "##\n\n"}
	for range 3000 {
		var src strings.Builder
		var tokens []api.Token
		for range random.Intn(20) {
			for range 1 + random.Intn(3) {
				src.WriteString(spaces[random.Intn(len(spaces))])
			}
			next := randomToken(random)
			tokens = append(tokens, next)
			src.WriteString(hwlex.Format([]api.Token{next}))
		}
		checkTokens(t, src.String()+"# end", tokens...)
	}
}
