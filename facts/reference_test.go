package facts_test

import (
	"math"
	"math/rand"
	"regexp"
	"strings"
	"testing"

	"multikernel/api"
	"multikernel/facts"
	"multikernel/hwlex"
)

// letters encodes each token as one letter: a word, a number, a string, or a punctuation mark of the grammar.
func letters(tokens []api.Token) string {
	var s string
	for _, t := range tokens {
		switch {
		case t.Kind != api.TokenPunct:
			s += map[int]string{api.TokenWord: "w", api.TokenNumber: "n", api.TokenString: "s"}[t.Kind]
		case strings.Contains("(),.-", t.Text) && len(t.Text) == 1:
			s += t.Text
		default:
			s += "?"
		}
	}
	return s
}

var sentence = regexp.MustCompile(`^(w\((n|-n|w|s)(,(n|-n|w|s))*\)\.)*$`)

// misfit returns the index of the first token that does not fit the grammar, len(s) if only the end does not fit, or -1.
func misfit(s string) int {
	for n := 1; n <= len(s); n++ {
		viable := false
		for _, rest := range []string{"", "(n).", "n).", ").", "."} {
			viable = viable || sentence.MatchString(s[:n]+rest)
		}
		if !viable {
			return n - 1
		}
	}
	if !sentence.MatchString(s) {
		return len(s)
	}
	return -1
}

// tokenError returns the first error in the list of P4.4 at the token i, which fits the grammar.
func tokenError(tokens []api.Token, s string, i int) api.Errno {
	before := "."
	if i > 0 {
		before = s[i-1 : i]
	}
	limit := uint64(math.MaxInt64)
	if before == "-" {
		limit = 1 << 63
	}
	commas := strings.Count(s[strings.LastIndex(s[:i], "(")+1:i], ",")
	switch text := tokens[i].Text; {
	case s[i] == 'n' && tokens[i].Value > limit:
		return api.ErrRange
	case (s[i] == 'w' || s[i] == 's') && (text == "" || len(text) > api.MaxNameLen):
		return api.ErrName
	case before == "," && commas >= api.MaxArity:
		return api.ErrLimit
	case before == "." && strings.Count(s[:i], ".") >= api.MaxFacts:
		return api.ErrLimit
	}
	return api.OK
}

// reference reads src as P4.4 says it, without a parser: the errors from the list of tokens, the facts by splitting it.
func reference(src string) ([]api.Fact, api.Pos, api.Errno) {
	tokens, pos, err := hwlex.Scan(src)
	if err != api.OK {
		return nil, pos, err
	}
	s := letters(tokens)
	bad := misfit(s)
	for i := range tokens {
		if i == bad {
			return nil, tokens[i].Pos, api.ErrSyntax
		}
		if err := tokenError(tokens, s, i); err != api.OK {
			return nil, tokens[i].Pos, err
		}
	}
	if bad >= 0 {
		lines := strings.Split(src, "\n")
		return nil, api.Pos{Line: len(lines), Col: len(lines[len(lines)-1]) + 1}, api.ErrSyntax
	}
	var db []api.Fact
	for i, t := range tokens {
		switch minus := i > 0 && s[i-1] == '-'; {
		case s[i] == 'w' && s[i+1] == '(':
			db = append(db, api.Fact{Relation: t.Text})
			continue
		case s[i] == 'w' || s[i] == 's':
			db[len(db)-1].Args = append(db[len(db)-1].Args, word(t.Text))
		case s[i] == 'n' && minus && t.Value > 0:
			db[len(db)-1].Args = append(db[len(db)-1].Args, integer(-1-int64(t.Value-1)))
		case s[i] == 'n':
			db[len(db)-1].Args = append(db[len(db)-1].Args, integer(int64(t.Value)))
		}
	}
	return setOf(db), api.Pos{}, api.OK
}

func checkReference(t *testing.T, src string) api.Errno {
	t.Helper()
	want, pos, err := reference(src)
	if err == api.OK {
		checkParse(t, src, want)
	} else {
		checkParseError(t, src, pos.Line, pos.Col, err)
	}
	return err
}

// randomText returns a text of facts in which a few tokens have been exchanged, left out or inserted.
func randomText(r *rand.Rand) string {
	values := strings.Fields(`0 1 5 0x10 2K 9223372036854775807 9223372036854775808 9223372036854775809 x _ y9 "x" "a-b" "" "(" abcdefghijklmnopqrstuvwx abcdefghijklmnopqrstuvwxy "abcdefghijklmnopqrstuvwx" "abcdefghijklmnopqrstuvwxy"`)
	value := func() string {
		if r.Intn(3) > 0 {
			return values[r.Intn(6)]
		}
		return values[r.Intn(len(values))]
	}
	var tokens []string
	for range r.Intn(4) {
		tokens = append(tokens, []string{"p", "q", "abcdefghijklmnopqrstuvwx"}[r.Intn(3)])
		for i := range 1 + r.Intn(1+r.Intn(10)) {
			tokens = append(tokens, []string{"(", ","}[min(i, 1)])
			if r.Intn(4) == 0 {
				tokens = append(tokens, "-")
			}
			if v := value(); tokens[len(tokens)-1] != "-" || v[0] >= '0' && v[0] <= '9' {
				tokens = append(tokens, v)
			} else {
				tokens = append(tokens, "7")
			}
		}
		tokens = append(tokens, ")", ".")
	}
	others := append(strings.Fields("( ) , . - + .. -> ; p"), values...)
	for range r.Intn(3) {
		if len(tokens) == 0 {
			break
		}
		i, other := r.Intn(len(tokens)), others[r.Intn(len(others))]
		switch r.Intn(4) {
		case 0:
			tokens[i] = other
		case 1:
			tokens = append(tokens[:i], tokens[i+1:]...)
		case 2:
			tokens = append(tokens[:i+1], append([]string{other}, tokens[i+1:]...)...)
		case 3:
			tokens = tokens[:i]
		}
	}
	var src string
	for _, token := range tokens {
		src += token + []string{" ", "\n", " # p(\n", "\t"}[r.Intn(4)]
	}
	return src
}

func TestParseAgainstReference(t *testing.T) {
	r := rand.New(rand.NewSource(8))
	counts := map[api.Errno]int{}
	for range 60000 {
		counts[checkReference(t, randomText(r))]++
		if t.Failed() {
			return
		}
	}
	for _, err := range []api.Errno{api.OK, api.ErrSyntax, api.ErrRange, api.ErrName, api.ErrLimit} {
		if counts[err] < 500 {
			t.Error("error", err, "occurs", counts[err], "times")
		}
	}
}

// TestParseAllShortTexts tries all sequences of few tokens.
func TestParseAllShortTexts(t *testing.T) {
	marks := strings.Fields(`p ( ) , . - 1 "s" ..`)
	var try func(src string, n int)
	try = func(src string, n int) {
		checkReference(t, src)
		if n == 0 || t.Failed() {
			return
		}
		for _, mark := range marks {
			try(src+mark+" ", n-1)
		}
	}
	try("", 4)
	for _, start := range []string{"p(1", "p(-1,", "p(p).p(\"s\")"} {
		try(start, 3)
	}
}

func TestFormatOfParseIsStable(t *testing.T) {
	r := rand.New(rand.NewSource(9))
	for range 3000 {
		src := randomText(r)
		if db, _, err := facts.Parse(src); err == api.OK {
			checkParse(t, facts.Format(db), db)
		}
	}
}
