package hwlex_test

import (
	"math"
	"slices"
	"strings"
	"sync"
	"testing"

	"multikernel/api"
	"multikernel/hwlex"
)

func word(s string) api.Token   { return api.Token{Kind: api.TokenWord, Text: s} }
func number(v uint64) api.Token { return api.Token{Kind: api.TokenNumber, Value: v} }
func text(s string) api.Token   { return api.Token{Kind: api.TokenString, Text: s} }
func punct(s string) api.Token  { return api.Token{Kind: api.TokenPunct, Text: s} }

// at returns t at a position.
func at(line, col int, t api.Token) api.Token {
	t.Pos = api.Pos{Line: line, Col: col}
	return t
}

// marks lists all punctuation marks.
func marks() []string {
	return strings.Fields("{ } ( ) [ ] , ; : = < > ! + - * ? . / <= >= != .. ->")
}

// checkTokens checks the tokens of src, their positions aside.
func checkTokens(t *testing.T, src string, want ...api.Token) {
	t.Helper()
	got, pos, err := hwlex.Scan(src)
	if err != api.OK || pos != (api.Pos{}) {
		t.Errorf("%.60q: error %d at %v", src, err, pos)
		return
	}
	for i := range got {
		got[i].Pos = api.Pos{}
	}
	if !slices.Equal(got, want) {
		t.Errorf("%.60q: %v, want %v", src, got, want)
	}
}

// checkError checks that Scan returns nothing but an error and its position.
func checkError(t *testing.T, src string, line, col int, want api.Errno) {
	t.Helper()
	got, pos, err := hwlex.Scan(src)
	if len(got) != 0 || err != want || pos != (api.Pos{Line: line, Col: col}) {
		t.Errorf("%.60q: %d tokens, error %d at %v, want %d at %d:%d", src, len(got), err, pos, want, line, col)
	}
}

// P2.1

func TestSpaceAndComments(t *testing.T) {
	for _, src := range []string{"", " ", "\t\n\r ", "#", "# a $ \" \x00\xff 1a", "#\n#", "\r\n# x\r y\n\t"} {
		checkTokens(t, src)
	}
	checkTokens(t, "a#b\nc", word("a"), word("c"))
	checkTokens(t, "a#b\rc", word("a"))
	checkTokens(t, "12#a", number(12))
	checkTokens(t, "a## \"\n\"# x\"#\"", word("a"), text("# x"))
	checkTokens(t, "<#\n=", punct("<"), punct("="))
	for _, space := range []string{" ", "\t", "\n", "\r", "#\n"} {
		checkTokens(t, "a"+space+"b", word("a"), word("b"))
		checkTokens(t, "."+space+".", punct("."), punct("."))
		checkTokens(t, "1"+space+"2", number(1), number(2))
	}
}

func TestWords(t *testing.T) {
	all := "_abcdefghijklmnopqrstuvwxyzABCDEFGHIJKLMNOPQRSTUVWXYZ0123456789_"
	checkTokens(t, all, word(all))
	for i := range 53 {
		checkTokens(t, all[i:i+1]+"9", word(all[i:i+1]+"9"))
	}
	long := strings.Repeat("x", api.MaxTextLen)
	checkTokens(t, long, word(long))
	checkTokens(t, "a-b.c", word("a"), punct("-"), word("b"), punct("."), word("c"))
	checkTokens(t, "x0K K 0K", word("x0K"), word("K"), number(0))
	checkTokens(t, "a\"b\"c", word("a"), text("b"), word("c"))
}

func TestNumbers(t *testing.T) {
	for src, want := range map[string]uint64{
		"0":                                     0,
		"7":                                     7,
		"1234567890":                            1234567890,
		"0K":                                    0,
		"0M":                                    0,
		"0G":                                    0,
		"1K":                                    1 << 10,
		"3M":                                    3 << 20,
		"2G":                                    2 << 30,
		"0x0":                                   0,
		"0x10K":                                 16384,
		"0x1M":                                  1 << 20,
		"0xfG":                                  15 << 30,
		"0x0123456789abcdef":                    0x0123456789abcdef,
		"0xABCDEF":                              0xabcdef,
		"0xaBcDeF":                              0xabcdef,
		"0x00":                                  0,
		"18446744073709551615":                  math.MaxUint64,
		"18014398509481983K":                    math.MaxUint64 - 1<<10 + 1,
		"17592186044415M":                       math.MaxUint64 - 1<<20 + 1,
		"17179869183G":                          math.MaxUint64 - 1<<30 + 1,
		"0xffffffffffffffff":                    math.MaxUint64,
		"0x3fffffffffffffK":                     math.MaxUint64 - 1<<10 + 1,
		"0xfffffffffffM":                        math.MaxUint64 - 1<<20 + 1,
		"0x3ffffffffG":                          math.MaxUint64 - 1<<30 + 1,
		"0x" + strings.Repeat("0", 5000) + "aK": 10 << 10,
	} {
		checkTokens(t, src, number(want))
		checkTokens(t, "("+src+")", punct("("), number(want), punct(")"))
	}
}

func TestStrings(t *testing.T) {
	var all []byte
	for c := byte(32); c <= 126; c++ {
		if c != '"' && c != '\\' {
			all = append(all, c)
		}
	}
	checkTokens(t, `"`+string(all)+`"`, text(string(all)))
	checkTokens(t, `""`, text(""))
	checkTokens(t, `"""a"`, text(""), text("a"))
	checkTokens(t, `"12a"12`, text("12a"), number(12))
	long := strings.Repeat(" ", api.MaxTextLen-2)
	checkTokens(t, `"`+long+`"`, text(long))
}

func TestPunctuation(t *testing.T) {
	for _, m := range marks() {
		checkTokens(t, m, punct(m))
		checkTokens(t, "a"+m+"1", word("a"), punct(m), number(1))
	}
	checkTokens(t, "...", punct(".."), punct("."))
	checkTokens(t, "....", punct(".."), punct(".."))
	checkTokens(t, "-->", punct("-"), punct("->"))
	checkTokens(t, "->=", punct("->"), punct("="))
	checkTokens(t, "->>=", punct("->"), punct(">="))
	checkTokens(t, "==", punct("="), punct("="))
	checkTokens(t, "=<", punct("="), punct("<"))
	checkTokens(t, "<>", punct("<"), punct(">"))
	checkTokens(t, "!!=<", punct("!"), punct("!="), punct("<"))
	checkTokens(t, "<-", punct("<"), punct("-"))
}

// P2.2

func TestPositions(t *testing.T) {
	for _, c := range []struct {
		src  string
		want []api.Token
	}{
		{"core 0x10K;", []api.Token{at(1, 1, word("core")), at(1, 6, number(16384)), at(1, 11, punct(";"))}},
		{"\n\na", []api.Token{at(3, 1, word("a"))}},
		{"\r\ta\r\r\nb", []api.Token{at(1, 3, word("a")), at(2, 1, word("b"))}},
		{"# c\n # d\n  \"e\"->1", []api.Token{at(3, 3, text("e")), at(3, 6, punct("->")), at(3, 8, number(1))}},
		{"a # \xc3\xa9\xff\n b", []api.Token{at(1, 1, word("a")), at(2, 2, word("b"))}},
		{"...", []api.Token{at(1, 1, punct("..")), at(1, 3, punct("."))}},
	} {
		got, pos, err := hwlex.Scan(c.src)
		if err != api.OK || pos != (api.Pos{}) || !slices.Equal(got, c.want) {
			t.Errorf("%q: %v, error %d at %v, want %v", c.src, got, err, pos, c.want)
		}
	}
	far := strings.Repeat("\n", 3000) + strings.Repeat(" ", 4000)
	got, _, _ := hwlex.Scan(far + "x")
	if !slices.Equal(got, []api.Token{at(3001, 4001, word("x"))}) {
		t.Errorf("far token: %v", got)
	}
}

func TestSyntaxErrors(t *testing.T) {
	for _, src := range []string{
		"12a", "01", "00", "0_", "1_0", "0x", "0xK", "0xg", "0x1k", "0X1", "0b1", "1k", "1KK", "1KM", "0x1KG", "1e5", "9L", "0x_1", "08K", "0f",
		"18446744073709551616a", "0xfffffffffffffffffz", "99999999999999999999_", "99999999999999999999KK", "099999999999999999999",
		`"`, `"a`, `" #`, "\"\n\"", "\"a\tb\"", "\"\r\"", "\"\x7f\"", "\"\x80\"", "\"\x1f\"", "\"\x00\"", `"\"`, `"\"x`, "\"\xc3\xa9\"",
		"$", "%", "&", "'", "@", "\\", "^", "`", "|", "~", "\x00", "\x0b", "\x0c", "\x1f", "\x7f", "\x80", "\xff", "\xc3\xa9",
	} {
		checkError(t, src, 1, 1, api.ErrSyntax)
		checkError(t, "a 1 \"s\"\n# c\n\t->"+src, 3, 4, api.ErrSyntax)
	}
}

func TestRangeErrors(t *testing.T) {
	for _, src := range []string{
		"18446744073709551616", "18446744073709551620", "99999999999999999999", "36893488147419103232", strings.Repeat("9", 1000),
		"18014398509481984K", "17592186044416M", "17179869184G", "18446744073709551616K", "18446744073709551615G",
		"0x10000000000000000", "0x40000000000000K", "0x100000000000M", "0x400000000G", "0x00010000000000000000",
		"1" + strings.Repeat("0", 64),
	} {
		checkError(t, src, 1, 1, api.ErrRange)
		checkError(t, "# \n a\n  "+src+" 1", 3, 3, api.ErrRange)
	}
}

func TestFirstError(t *testing.T) {
	checkError(t, "18446744073709551616 $", 1, 1, api.ErrRange)
	checkError(t, "$ 18446744073709551616", 1, 1, api.ErrSyntax)
	checkError(t, "a 1x \"", 1, 3, api.ErrSyntax)
	checkError(t, "a \"x\n18446744073709551616", 1, 3, api.ErrSyntax)
	checkError(t, "a\n \"\" 18446744073709551616 1x", 2, 5, api.ErrRange)
}

func TestTextLimit(t *testing.T) {
	fill := func(n int) string { return strings.Repeat(" ", n) }
	got, pos, err := hwlex.Scan(fill(api.MaxTextLen-1) + "a")
	if err != api.OK || pos != (api.Pos{}) || !slices.Equal(got, []api.Token{at(1, api.MaxTextLen, word("a"))}) {
		t.Errorf("greatest text: %v, error %d at %v", got, err, pos)
	}
	checkError(t, fill(api.MaxTextLen-1)+"$", 1, api.MaxTextLen, api.ErrSyntax)
	checkError(t, fill(api.MaxTextLen)+"a", 0, 0, api.ErrLimit)
	checkError(t, "$ 1x"+fill(api.MaxTextLen), 0, 0, api.ErrLimit)
	checkError(t, fill(api.MaxTextLen+1), 0, 0, api.ErrLimit)
	points, _, _ := hwlex.Scan(strings.Repeat(";", api.MaxTextLen))
	if len(points) != api.MaxTextLen {
		t.Errorf("%d marks", len(points))
	}
}

// P2.3

func TestFormat(t *testing.T) {
	tokens := []api.Token{
		at(7, 3, word("_a9")), number(0), number(math.MaxUint64), at(-1, math.MinInt, text("")),
		text(" # ; "), punct(".."), punct("."), punct("-"), number(1), punct(">"), word("K"),
	}
	was := slices.Clone(tokens)
	want := `_a9 0 18446744073709551615 "" " # ; " .. . - 1 > K`
	if got := hwlex.Format(tokens); got != want {
		t.Errorf("%q, want %q", got, want)
	}
	if !slices.Equal(tokens, was) {
		t.Error("Format changed its argument")
	}
	if got := hwlex.Format(nil) + hwlex.Format([]api.Token{}); got != "" {
		t.Errorf("no tokens: %q", got)
	}
	for _, m := range marks() {
		if got := hwlex.Format([]api.Token{punct(m)}); got != m {
			t.Errorf("%q, want %q", got, m)
		}
	}
}

func TestFormatLength(t *testing.T) {
	long := strings.Repeat("x", api.MaxTextLen+1)
	if hwlex.Format([]api.Token{word(long), text(long)}) != long+` "`+long+`"` {
		t.Error("a long word or string is not returned")
	}
}

func TestFormatMalformed(t *testing.T) {
	withValue := func(t api.Token) api.Token { t.Value = 1; return t }
	bad := []api.Token{
		{}, {Kind: 5}, {Kind: 5, Text: "a"}, {Kind: -1, Text: "a"}, {Kind: math.MinInt}, {Kind: math.MaxInt, Value: 1}, {Text: "a"}, {Value: 1},
		{Kind: api.TokenNumber, Text: "1"}, {Kind: api.TokenNumber, Text: "1", Value: 1}, {Kind: api.TokenNumber, Text: " "},
		withValue(word("a")), withValue(text("a")), withValue(text("")), withValue(punct(";")),
		word(""), word("1"), word("1a"), word("a b"), word("a-"), word(" a"), word("a "), word("a\n"), word(";"), word("\xc3\xa9"), word("a#"), word("\"a\""),
		text("\""), text("\\"), text("\n"), text("a\x7f"), text("\x1fa"), text("\t"), text("a\x80"), text("\x00"), text("\xff"),
		punct(""), punct("a"), punct("1"), punct("\""), punct("#"), punct(" "), punct("=="), punct("<>"), punct("=<"), punct("..."), punct("->>"), punct(". "), punct(" ;"), punct("{}"), punct("$"), punct("_"),
	}
	for _, b := range bad {
		for _, tokens := range [][]api.Token{{b}, {word("a"), b}, {b, number(1)}, {punct(";"), b, text("x")}} {
			if got := hwlex.Format(tokens); got != "" {
				t.Errorf("%v: %q", tokens, got)
			}
		}
	}
}

// P2.4

func TestIsName(t *testing.T) {
	for _, s := range []string{"a", "z", "A", "Z", "_", "__", "a1", "_9", "Core_0", "select", strings.Repeat("x", api.MaxNameLen), "_" + strings.Repeat("9", api.MaxNameLen-1)} {
		if !hwlex.IsName(s) {
			t.Errorf("%q is a name", s)
		}
	}
	for _, s := range []string{"", "0", "9a", "0x1", " ", "a ", " a", "a b", "a-b", "a.b", "a\n", "\"a\"", ";", "a#", "\x00", "a\x00", "a\x80", "\xc3\xa9", "a\xc3\xa9", strings.Repeat("x", api.MaxNameLen+1), strings.Repeat("x", 1<<17)} {
		if hwlex.IsName(s) {
			t.Errorf("%.60q is no name", s)
		}
	}
}

// R4 and R5: a result is new memory, and calls may run side by side.

func TestResultsAreNew(t *testing.T) {
	a, _, _ := hwlex.Scan("a 1")
	b, _, _ := hwlex.Scan("a 1")
	a[0], a[1] = punct(";"), punct(";")
	if b[0] != at(1, 1, word("a")) || b[1] != at(1, 3, number(1)) {
		t.Error("two results share memory")
	}
}

func TestConcurrentCalls(t *testing.T) {
	src := strings.Repeat("core 0x1K { \"a\"; } # x\n", 500)
	tokens, _, _ := hwlex.Scan(src)
	want := hwlex.Format(tokens)
	var group sync.WaitGroup
	for range 8 {
		group.Go(func() {
			got, _, err := hwlex.Scan(src)
			if err != api.OK || !slices.Equal(got, tokens) || hwlex.Format(got) != want {
				t.Error("a call beside others has another result")
			}
		})
	}
	group.Wait()
}
