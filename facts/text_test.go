package facts_test

import (
	"math"
	"math/rand"
	"strings"
	"testing"

	"multikernel/api"
	"multikernel/facts"
)

func checkFormat(t *testing.T, db []api.Fact, want string) {
	t.Helper()
	if got := facts.Format(db); got != want {
		t.Errorf("%q, want %q", got, want)
	}
}

// P4.4 Format

func TestFormatExamples(t *testing.T) {
	checkFormat(t, []api.Fact{integers("core", 0, 32, 0, 100)}, "core(0, 32, 0, 100).\n")
	checkFormat(t, []api.Fact{fact("p", integer(-5), word("a b"))}, "p(-5, \"a b\").\n")
}

func TestFormatNothing(t *testing.T) {
	checkFormat(t, nil, "")
	checkFormat(t, []api.Fact{}, "")
}

func TestFormatValues(t *testing.T) {
	for text, v := range map[string]api.Value{
		"0":                                 integer(0),
		"-1":                                integer(-1),
		"9223372036854775807":               integer(math.MaxInt64),
		"-9223372036854775808":              integer(math.MinInt64),
		"_":                                 word("_"),
		"Xy9_":                              word("Xy9_"),
		"select":                            word("select"),
		`"9"`:                               word("9"),
		`"9a"`:                              word("9a"),
		`"-5"`:                              word("-5"),
		`" "`:                               word(" "),
		`" a"`:                              word(" a"),
		`"a-b"`:                             word("a-b"),
		`"# ' ~"`:                           word("# ' ~"),
		`"a."`:                              word("a."),
		strings.Repeat("a", 24):             word(strings.Repeat("a", 24)),
		`"` + strings.Repeat("9", 24) + `"`: word(strings.Repeat("9", 24)),
	} {
		checkFormat(t, []api.Fact{fact("p", v)}, "p("+text+").\n")
		checkFormat(t, []api.Fact{fact("_9", v, integer(7), v)}, "_9("+text+", 7, "+text+").\n")
	}
}

func TestFormatSortsAndDropsRepetitions(t *testing.T) {
	db := []api.Fact{integers("b", 1), integers("a", 10), fact("a", word("x")), integers("a", 9), integers("b", 1), integers("a", 1, 1), integers("aa", 1), integers("a", -3)}
	before := clone(db)
	checkFormat(t, db, "a(-3).\na(9).\na(10).\na(x).\na(1, 1).\naa(1).\nb(1).\n")
	if !same(db, before) {
		t.Error("the argument is changed")
	}
}

func TestFormatOddFacts(t *testing.T) {
	odd := []api.Fact{{}, fact("p"), integers("", 1), integers("1", 1), integers("a b", 1), integers(strings.Repeat("a", 25), 1), integers("p", make([]int64, 9)...)}
	for _, v := range oddValues() {
		odd = append(odd, fact("p", v), fact("p", integer(1), v))
	}
	for _, f := range odd {
		checkFormat(t, []api.Fact{f}, "")
		checkFormat(t, []api.Fact{integers("a", 1), f, integers("z", 1)}, "")
	}
}

func TestFormatHasNoLimit(t *testing.T) {
	text := facts.Format(manyFacts(api.MaxFacts + 2))
	if n := strings.Count(text, "\n"); n != api.MaxFacts+2 || !strings.HasSuffix(text, "a(8193).\n") {
		t.Error(n)
	}
}

// P4.4 Parse

func TestParseNothing(t *testing.T) {
	for _, src := range []string{"", " \t\r\n", "# p(1).", "# p(1).\n"} {
		checkParse(t, src, nil)
	}
}

func TestParseFacts(t *testing.T) {
	checkParse(t, "core(0, 32, 0, 100).", []api.Fact{integers("core", 0, 32, 0, 100)})
	checkParse(t, "b(1).a(x).b(1)#\n.a ( - 2 , _ ) . a\n(\"x\")\n.", []api.Fact{fact("a", word("x")), fact("a", integer(-2), word("_")), integers("b", 1)})
	checkParse(t, "p(1,2,3,4,5,6,7,8).", []api.Fact{integers("p", 1, 2, 3, 4, 5, 6, 7, 8)})
	checkParse(t, "p(1,2,3,4,5,6,7,-8).", []api.Fact{integers("p", 1, 2, 3, 4, 5, 6, 7, -8)})
}

func TestParseValues(t *testing.T) {
	for text, v := range map[string]api.Value{
		"0":                                 integer(0),
		"-0":                                integer(0),
		"- 0x10K":                           integer(-16384),
		"9223372036854775807":               integer(math.MaxInt64),
		"0x7fffffffffffffff":                integer(math.MaxInt64),
		"-9223372036854775807":              integer(math.MinInt64 + 1),
		"-9223372036854775808":              integer(math.MinInt64),
		"-0x8000000000000000":               integer(math.MinInt64),
		"-8589934592G":                      integer(math.MinInt64),
		"-#comment\n7":                      integer(-7),
		"x":                                 word("x"),
		`"x"`:                               word("x"),
		`"-5"`:                              word("-5"),
		`"p(1). # no comment"`:              word("p(1). # no comment"),
		strings.Repeat("a", 24):             word(strings.Repeat("a", 24)),
		`"` + strings.Repeat(" ", 24) + `"`: word(strings.Repeat(" ", 24)),
	} {
		checkParse(t, "p("+text+").", []api.Fact{fact("p", v)})
		checkParse(t, "q(a,"+text+",b).", []api.Fact{fact("q", word("a"), v, word("b"))})
	}
}

func TestParseRelations(t *testing.T) {
	for _, name := range []string{"_", "P", "p9", "machine", strings.Repeat("a", 24)} {
		checkParse(t, name+"(1).", []api.Fact{integers(name, 1)})
	}
}

func TestParseSyntaxErrors(t *testing.T) {
	for _, test := range []struct {
		src       string
		line, col int
	}{
		{"p", 1, 2}, {"p \n # c\n", 3, 1}, {"p(", 1, 3}, {"p(1", 1, 4}, {"p(1,", 1, 5}, {"p(-", 1, 4}, {"p(-1", 1, 5}, {"p(1)", 1, 5}, {"p(1) ", 1, 6}, {"p(1)\n", 2, 1}, {"p(1).q", 1, 7},
		{"1(1).", 1, 1}, {`"p"(1).`, 1, 1}, {"(1).", 1, 1}, {"-p(1).", 1, 1}, {".", 1, 1}, {"p(1).\n.", 2, 1}, {"p(1).5", 1, 6},
		{"p 1).", 1, 3}, {"p)1).", 1, 2}, {"p[1].", 1, 2}, {"p.", 1, 2}, {"p q(1).", 1, 3}, {`p"("1).`, 1, 2},
		{"p().", 1, 3}, {"p(,1).", 1, 3}, {"p(+1).", 1, 3}, {"p((1)).", 1, 3}, {"p(.).", 1, 3}, {"p(->1).", 1, 3},
		{"p(--1).", 1, 4}, {"p(-x).", 1, 4}, {`p(-"1").`, 1, 4}, {"p(-).", 1, 4}, {"p(-,1).", 1, 4},
		{"p(1 2).", 1, 5}, {"p(1 x).", 1, 5}, {"p(1-2).", 1, 4}, {"p(1;2).", 1, 4}, {"p(1.2).", 1, 4}, {`p(1"").`, 1, 4}, {"p(a(1)).", 1, 4},
		{"p(1,).", 1, 5}, {"p(1,,2).", 1, 5}, {"p(1(.", 1, 4}, {"p(1.", 1, 4}, {`p(1")".`, 1, 4},
		{"p(1);", 1, 5}, {"p(1),", 1, 5}, {"p(1)q(1).", 1, 5}, {"p(1))", 1, 5}, {"p(1)..", 1, 5}, {`p(1)"."`, 1, 5}, {"p(1)1", 1, 5},
	} {
		checkParseError(t, test.src, test.line, test.col, api.ErrSyntax)
	}
}

func TestParseScanErrors(t *testing.T) {
	checkParseError(t, "p(1). $", 1, 7, api.ErrSyntax)
	checkParseError(t, "p(1).\n12a", 2, 1, api.ErrSyntax)
	checkParseError(t, `p("a).`, 1, 3, api.ErrSyntax)
	checkParseError(t, "p(18446744073709551616).", 1, 3, api.ErrRange)
	checkParseError(t, "5 . ( 18446744073709551616", 1, 7, api.ErrRange)
	checkParse(t, "p(1)."+strings.Repeat(" ", api.MaxTextLen-5), []api.Fact{integers("p", 1)})
	checkParseError(t, "p(1)."+strings.Repeat(" ", api.MaxTextLen-4), 0, 0, api.ErrLimit)
}

func TestParseRangeErrors(t *testing.T) {
	checkParseError(t, "p(9223372036854775808).", 1, 3, api.ErrRange)
	checkParseError(t, "p(\n0xffffffffffffffff).", 2, 1, api.ErrRange)
	checkParseError(t, "p(a,9223372036854775808;", 1, 5, api.ErrRange)
	checkParseError(t, "p(-9223372036854775809).", 1, 4, api.ErrRange)
	checkParseError(t, "p(- 18446744073709551615).", 1, 5, api.ErrRange)
	checkParseError(t, "p(1 9223372036854775808).", 1, 5, api.ErrSyntax)
	checkParseError(t, "9223372036854775808(1).", 1, 1, api.ErrSyntax)
}

func TestParseNameErrors(t *testing.T) {
	long := strings.Repeat("a", 25)
	checkParseError(t, `p("").`, 1, 3, api.ErrName)
	checkParseError(t, `p(1, "" ;`, 1, 6, api.ErrName)
	checkParseError(t, "p("+long+").", 1, 3, api.ErrName)
	checkParseError(t, `p("`+long+`").`, 1, 3, api.ErrName)
	checkParseError(t, "p(1).\n "+long+"(1).", 2, 2, api.ErrName)
	checkParseError(t, long, 1, 1, api.ErrName)
	checkParseError(t, "p "+long, 1, 3, api.ErrSyntax)
	checkParseError(t, "p(1 "+long+").", 1, 5, api.ErrSyntax)
	checkParseError(t, "p(-"+long+").", 1, 4, api.ErrSyntax)
	checkParseError(t, `"`+long+`"(1).`, 1, 1, api.ErrSyntax)
	checkParseError(t, `""(1).`, 1, 1, api.ErrSyntax)
}

func TestParseArityErrors(t *testing.T) {
	for _, test := range []struct {
		argument string
		err      api.Errno
	}{
		{"9", api.ErrLimit}, {"-9", api.ErrLimit}, {"x", api.ErrLimit}, {`"x"`, api.ErrLimit},
		{"-x", api.ErrLimit}, {"-", api.ErrLimit}, {"-9223372036854775809", api.ErrLimit}, {"9,9,9", api.ErrLimit}, {"9 9", api.ErrLimit}, {`9,""`, api.ErrLimit},
		{"9223372036854775808", api.ErrRange}, {`""`, api.ErrName}, {strings.Repeat("a", 25), api.ErrName},
		{"", api.ErrSyntax}, {"+9", api.ErrSyntax}, {",9", api.ErrSyntax},
	} {
		checkParseError(t, "p(1,2,3,4,5,6,7,8,"+test.argument+").", 1, 19, test.err)
	}
	checkParseError(t, "p(1,2,3,4,5,6,7,8,", 1, 19, api.ErrSyntax)
	checkParseError(t, "p(1,2,3,4,5,6,7,8 9).", 1, 19, api.ErrSyntax)
	checkParseError(t, "p(1).q(1,2,3,4,5,6,7,8,9).", 1, 24, api.ErrLimit)
	checkParseError(t, "p(1,2,3,4,5,6,7,8", 1, 18, api.ErrSyntax)
}

func TestParseCountErrors(t *testing.T) {
	full := strings.Repeat("a(1).", api.MaxFacts)
	checkParse(t, full, []api.Fact{integers("a", 1)})
	checkParse(t, full+"\n# b(1).", []api.Fact{integers("a", 1)})
	for _, rest := range []string{"a(1).", "b(1).", "b", "b 5", "b()", `b("")`} {
		checkParseError(t, full+"\n "+rest, 2, 2, api.ErrLimit)
	}
	checkParseError(t, full+"\n"+strings.Repeat("a", 25)+"(1).", 2, 1, api.ErrName)
	checkParseError(t, full+"\n5(1).", 2, 1, api.ErrSyntax)
	checkParseError(t, full[5:]+"\n(1).", 2, 1, api.ErrSyntax)
	checkParse(t, full[5:]+"\nb(1).", []api.Fact{integers("a", 1), integers("b", 1)})
}

func TestParseHasItsOwnMemory(t *testing.T) {
	db, _, _ := facts.Parse("a(1, 2). a(x). b(1, 2). a(1, 2).")
	checkOwnMemory(t, db)
}

// P4.5

func TestParseOfFormat(t *testing.T) {
	r := rand.New(rand.NewSource(7))
	for range 2000 {
		var values []api.Value
		for range 6 {
			values = append(values, randomValue(r))
		}
		db := randomFacts(r, r.Intn(30), append(values, plainValues()...))
		checkParse(t, facts.Format(db), setOf(db))
	}
	checkParse(t, facts.Format(machineFacts()), machineFacts())
}

func randomValue(r *rand.Rand) api.Value {
	if r.Intn(2) == 0 {
		return integer(int64(r.Uint64()) >> r.Intn(64))
	}
	const inString = " !#$%'()+-,.;{}09AZ[]^_az|~"
	var text string
	for range 1 + r.Intn(api.MaxNameLen) {
		text += inString[r.Intn(len(inString)):][:1]
	}
	return word(text)
}

// shortFacts returns facts whose text is so short that more than MaxFacts of them fit into a text.
func shortFacts(n int) []api.Fact {
	const letters = "_abcdefghijklmnopqrstuvwxyzABCDEFGHIJKLMNOPQRSTUVWXYZ"
	var db []api.Fact
	for i := range n {
		k := len(letters)
		db = append(db, fact(letters[i%k:][:1], word(letters[i/k%k:][:1]+letters[i/k/k:][:1])))
	}
	return db
}

func TestParseOfFormatOfManyFacts(t *testing.T) {
	db := shortFacts(api.MaxFacts)
	checkParse(t, facts.Format(db), setOf(db))
	text := facts.Format(shortFacts(api.MaxFacts + 1))
	if len(text) > api.MaxTextLen {
		t.Fatal(len(text), "bytes")
	}
	checkParseError(t, text, api.MaxFacts+1, 1, api.ErrLimit)
}
