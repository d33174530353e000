package query_test

import (
	"math"
	"math/rand"
	"regexp"
	"strings"
	"testing"

	"multikernel/api"
	"multikernel/hwlex"
	"multikernel/query"
)

// letters encodes each token as one letter: S, W, N and I are the reserved words, w a word, n a number, s a string, o a
// comparison, d the mark between two bounds, and ? a mark that the grammar does not use.
func letters(tokens []api.Token) string {
	reserved := map[string]string{"select": "S", "where": "W", "not": "N", "in": "I"}
	marks := map[string]string{"=": "o", "!=": "o", "<": "o", "<=": "o", ">": "o", ">=": "o", "..": "d", "(": "(", ")": ")", ",": ",", "+": "+", "-": "-"}
	var s string
	for _, t := range tokens {
		letter := "?"
		switch t.Kind {
		case api.TokenWord:
			letter = "w"
			if r := reserved[t.Text]; r != "" {
				letter = r
			}
		case api.TokenNumber:
			letter = "n"
		case api.TokenString:
			letter = "s"
		case api.TokenPunct:
			if m := marks[t.Text]; m != "" {
				letter = m
			}
		}
		s += letter
	}
	return s
}

const (
	operandForm = `(-?n|w|s)`
	tupleForm   = `N?w\(` + operandForm + `(,` + operandForm + `)*\)`
	compareForm = operandForm + `o` + operandForm + `([-+]n)?`
	rangeForm   = `wI-?nd-?n`
	goalForm    = `(` + tupleForm + `|` + compareForm + `|` + rangeForm + `)`
)

var (
	sentence    = regexp.MustCompile(`^S(w(,w)*)?W` + goalForm + `(,` + goalForm + `)*$`)
	oneGoal     = regexp.MustCompile(`^` + goalForm)
	oneOperand  = regexp.MustCompile(`^` + operandForm)
	integerSign = regexp.MustCompile(`[^nws]-$`)
)

// misfit returns the index of the first token that does not fit the grammar, len(s) if only the end does not fit, or -1.
func misfit(s string) int {
	for n := 0; n <= len(s); n++ {
		viable := false
		for _, rest := range []string{"", "SWnon", "Wnon", "wWnon", "non", "w(n)", "(n)", "on", "n", "ndn", "dn", "n)", ")"} {
			viable = viable || sentence.MatchString(s[:n]+rest)
		}
		if !viable {
			return n - 1
		}
	}
	if !sentence.MatchString(s) {
		return len(s)
	}
	return -1
}

// tokenError returns the first error in the list of P5.5 at the token i, which fits the grammar.
func tokenError(tokens []api.Token, s string, i int) api.Errno {
	limit := uint64(math.MaxInt64)
	if integerSign.MatchString(s[:i]) {
		limit = 1 << 63
	}
	switch text := tokens[i].Text; {
	case s[i] == 'n' && tokens[i].Value > limit:
		return api.ErrRange
	case (s[i] == 'w' || s[i] == 's') && (text == "" || len(text) > api.MaxNameLen):
		return api.ErrName
	}
	return api.OK
}

// readOperand returns the operand at the beginning of the tokens and the number of its tokens.
func readOperand(tokens []api.Token, s string) (api.Operand, int) {
	form := oneOperand.FindString(s)
	last := tokens[len(form)-1]
	switch {
	case form == "n":
		return constant(integer(int64(last.Value))), 1
	case form == "-n" && last.Value > 0:
		return constant(integer(-1 - int64(last.Value-1))), 2
	case form == "-n":
		return constant(integer(0)), 2
	case form == "w" && (last.Text == "_" || strings.ContainsAny(last.Text[:1], "ABCDEFGHIJKLMNOPQRSTUVWXYZ")):
		return variable(last.Text), 1
	}
	return constant(word(last.Text)), 1
}

// readGoal returns the goal that consists of these tokens.
func readGoal(tokens []api.Token, s string) api.Goal {
	if open := strings.Index(s, "("); open >= 0 {
		g := api.Goal{Kind: open, Relation: tokens[open-1].Text} // 1 and 2 are the numbers of GoalMatch and GoalAbsent
		for i := open; s[i] != ')'; {
			o, n := readOperand(tokens[i+1:], s[i+1:])
			g.Args = append(g.Args, o)
			i += 1 + n
		}
		return g
	}
	left, n := readOperand(tokens, s)
	right, m := readOperand(tokens[n+1:], s[n+1:])
	rest := tokens[n+1+m:]
	if s[n] == 'I' {
		high, _ := readOperand(rest[1:], s[n+m+2:])
		return within(left, right.Const.Int, high.Const.Int)
	}
	op := map[string]int{"=": 1, "!=": 2, "<": 3, "<=": 4, ">": 5, ">=": 6}[tokens[n].Text]
	offset := int64(0)
	if len(rest) > 0 {
		offset = int64(rest[1].Value)
		if rest[0].Text == "-" {
			offset = -offset
		}
	}
	return compare(left, op, right, offset)
}

// referenceParse reads src as P5.5 says it, without a parser: the errors from the list of tokens, the goals by splitting it.
func referenceParse(src string) (api.Query, api.Pos, api.Errno) {
	tokens, pos, err := hwlex.Scan(src)
	if err != api.OK {
		return api.Query{}, pos, err
	}
	s := letters(tokens)
	bad := misfit(s)
	for i := range tokens {
		if i == bad {
			return api.Query{}, tokens[i].Pos, api.ErrSyntax
		}
		if err := tokenError(tokens, s, i); err != api.OK {
			return api.Query{}, tokens[i].Pos, err
		}
	}
	if bad >= 0 {
		lines := strings.Split(src, "\n")
		return api.Query{}, api.Pos{Line: len(lines), Col: len(lines[len(lines)-1]) + 1}, api.ErrSyntax
	}
	var q api.Query
	at := strings.Index(s, "W")
	for i, t := range tokens[:at] {
		if s[i] == 'w' {
			q.Select = append(q.Select, t.Text)
		}
	}
	for at++; at < len(s); at++ {
		n := len(oneGoal.FindString(s[at:]))
		q.Goals = append(q.Goals, readGoal(tokens[at:at+n], s[at:at+n]))
		at += n
	}
	return q, api.Pos{}, api.OK
}

func checkReference(t *testing.T, src string) api.Errno {
	t.Helper()
	want, pos, err := referenceParse(src)
	if err == api.OK {
		checkParse(t, src, want)
	} else {
		checkParseError(t, src, pos.Line, pos.Col, err)
	}
	return err
}

// randomTokens returns the tokens of a query, in which numbers and names may be too large.
func randomTokens(r *rand.Rand) []string {
	numbers := strings.Fields("0 1 5 0x10 2K 9 9223372036854775807 9223372036854775808 9223372036854775809")
	others := strings.Fields(`X Y _ x _x y9 "x" "X" "in" "a-b" Xabcdefghijklmnopqrstuvw abcdefghijklmnopqrstuvwx "" abcdefghijklmnopqrstuvwxy "abcdefghijklmnopqrstuvwxy"`)
	often := func(list []string, n int) string {
		if r.Intn(8) > 0 {
			return pick(r, list[:n])
		}
		return pick(r, list)
	}
	integer := func() []string {
		if r.Intn(3) == 0 {
			return []string{"-", often(numbers, 7)}
		}
		return []string{often(numbers, 7)}
	}
	operand := func() []string {
		if r.Intn(3) == 0 {
			return integer()
		}
		return []string{often(others, 10)}
	}
	tokens := []string{"select"}
	for i := range r.Intn(4) {
		if i > 0 {
			tokens = append(tokens, ",")
		}
		tokens = append(tokens, pick(r, others[:6]))
	}
	tokens = append(tokens, "where")
	for i := range 1 + r.Intn(4) {
		if i > 0 {
			tokens = append(tokens, ",")
		}
		switch r.Intn(4) {
		case 0:
			tokens = append(tokens, "not")
			fallthrough
		case 1:
			tokens = append(append(tokens, pick(r, []string{"p", "Q", "_"}), "("), operand()...)
			for range r.Intn(4) {
				tokens = append(append(tokens, ","), operand()...)
			}
			tokens = append(tokens, ")")
		case 2:
			tokens = append(append(append(tokens, operand()...), pick(r, strings.Fields("= != < <= > >="))), operand()...)
			if r.Intn(2) == 0 {
				tokens = append(tokens, pick(r, []string{"+", "-"}), often(numbers, 7))
			}
		case 3:
			tokens = append(append(append(append(tokens, pick(r, others[:6]), "in"), integer()...), ".."), integer()...)
		}
	}
	return tokens
}

// randomText returns the text of a query in which a few tokens have been exchanged, left out or inserted.
func randomText(r *rand.Rand) string {
	tokens := randomTokens(r)
	others := strings.Fields(`select where not in ( ) , = != < + - .. . -> ; p X _ 5 "x" "" 9223372036854775808 abcdefghijklmnopqrstuvwxy`)
	for range r.Intn(3) {
		i, other := r.Intn(len(tokens)), pick(r, others)
		switch r.Intn(4) {
		case 0:
			tokens[i] = other
		case 1:
			tokens = append(tokens[:i], tokens[i+1:]...)
		case 2:
			tokens = append(tokens[:i+1], append([]string{other}, tokens[i+1:]...)...)
		case 3:
			tokens = tokens[:i+1]
		}
	}
	var src string
	for _, token := range tokens {
		src += token + pick(r, []string{" ", "\n", " # p(\n", "\t"})
	}
	return src
}

func TestParseAgainstReference(t *testing.T) {
	r := rand.New(rand.NewSource(9))
	counts := map[api.Errno]int{}
	for range 30000 {
		counts[checkReference(t, randomText(r))]++
		if t.Failed() {
			return
		}
	}
	for _, err := range []api.Errno{api.OK, api.ErrSyntax, api.ErrRange, api.ErrName} {
		if counts[err] < 500 {
			t.Error("error", err, "occurs", counts[err], "times")
		}
	}
}

// TestParseAllShortTexts tries all sequences of few tokens behind each of several beginnings.
func TestParseAllShortTexts(t *testing.T) {
	marks := strings.Fields(`p X 1 "s" select where not in ( ) , = - + .. .`)
	var extend func(src string, n int)
	extend = func(src string, n int) {
		checkReference(t, src)
		if n == 0 || t.Failed() {
			return
		}
		for _, mark := range marks {
			extend(src+mark+" ", n-1)
		}
	}
	for _, start := range []string{"", "select X ", "select X, ", "select where ", "select where not ", "select where p(", "select where p(1 ", "select where X = ", "select where X = 1 ", "select where X = 1 - ", "select where X in ", "select where X in 1 ", "select where X in 1 .. ", "select where X in 1 .. 2 ", "select where p(1) ", "select where p(1), "} {
		extend(start, 2)
	}
	extend("select where ", 3)
}

func TestFormatOfParse(t *testing.T) {
	r := rand.New(rand.NewSource(10))
	valid := 0
	for range 10000 {
		q, _, err := query.Parse(randomText(r))
		if text := query.Format(q); err == api.OK && text != "" {
			valid++
			checkParse(t, text, q)
		}
	}
	if valid < 300 {
		t.Error("only", valid, "texts are valid queries")
	}
}
