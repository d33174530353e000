package query_test

import (
	"math"
	"math/rand"
	"strings"
	"testing"

	"multikernel/api"
	"multikernel/query"
)

// P5.5 Format

func TestFormatSelect(t *testing.T) {
	goals := []api.Goal{match("p", variable("X"), variable("Y"))}
	checkFormat(t, api.Query{Goals: goals}, "select where p(X, Y)")
	checkFormat(t, api.Query{Select: []string{}, Goals: goals}, "select where p(X, Y)")
	checkFormat(t, api.Query{Select: []string{"X"}, Goals: goals}, "select X where p(X, Y)")
	checkFormat(t, api.Query{Select: []string{"Y", "X"}, Goals: goals}, "select Y, X where p(X, Y)")
}

func TestFormatGoals(t *testing.T) {
	x, y, one := variable("X"), variable("Y"), constant(integer(1))
	for text, g := range map[string]api.Goal{
		"p(X)":                         match("p", x),
		"P(X, _, -1, a, \"a b\")":      match("P", x, variable("_"), constant(integer(-1)), constant(word("a")), constant(word("a b"))),
		"_(1)":                         match("_", one),
		"not p(X)":                     absent("p", x),
		"not q(_, X, 1)":               absent("q", variable("_"), x, one),
		"X = Y":                        compare(x, api.OpEqual, y, 0),
		"X != 1":                       compare(x, api.OpNotEqual, one, 0),
		"1 < X":                        compare(one, api.OpLess, x, 0),
		"X <= Y + 1":                   compare(x, api.OpLessEqual, y, 1),
		"X > Y - 1":                    compare(x, api.OpGreater, y, -1),
		"X >= 1 + 9223372036854775807": compare(x, api.OpGreaterEqual, one, math.MaxInt64),
		"X = -1 - 9223372036854775807": compare(x, api.OpEqual, constant(integer(-1)), -math.MaxInt64),
		"a = \"X\"":                    compare(constant(word("a")), api.OpEqual, constant(word("X")), 0),
		"X in 1 .. 2":                  within(x, 1, 2),
		"X in 0 .. 0":                  within(x, 0, 0),
		"X in -2 .. -1":                within(x, -2, -1),
		"X in -9223372036854775808 .. -9223372036854775808": within(x, math.MinInt64, math.MinInt64),
		"X in 9223372036854775807 .. 9223372036854775807":   within(x, math.MaxInt64, math.MaxInt64),
	} {
		q := api.Query{Goals: []api.Goal{g, match("all", x, y)}}
		checkFormat(t, q, "select where "+text+", all(X, Y)")
		checkParse(t, "select where "+text+", all(X, Y)", q)
		q.Goals[0], q.Goals[1] = q.Goals[1], q.Goals[0]
		checkFormat(t, q, "select where all(X, Y), "+text)
	}
}

func TestFormatConstants(t *testing.T) {
	long := strings.Repeat("z", 24)
	for text, v := range map[string]api.Value{
		"0": integer(0), "-1": integer(-1), "9223372036854775807": integer(math.MaxInt64), "-9223372036854775808": integer(math.MinInt64),
		"a": word("a"), "z9_": word("z9_"), "_a": word("_a"), "__": word("__"), "_X": word("_X"), long: word(long), "selects": word("selects"), "wher": word("wher"), "nots": word("nots"), "in_": word("in_"), "_9": word("_9"),
		`"select"`: word("select"), `"where"`: word("where"), `"not"`: word("not"), `"in"`: word("in"), `"_"`: word("_"), `"A"`: word("A"), `"Z"`: word("Z"), `"Xy9"`: word("Xy9"), `"Select"`: word("Select"), `"NOT"`: word("NOT"),
		`"9"`: word("9"), `"-5"`: word("-5"), `" "`: word(" "), `"a b"`: word("a b"), `"# ~"`: word("# ~"), `"[a"`: word("[a"), `"@"`: word("@"),
	} {
		c := constant(v)
		for format, g := range map[string]api.Goal{"p(?, X, ?)": match("p", c, variable("X"), c), "not p(?)": absent("p", c), "? = X": compare(c, api.OpEqual, variable("X"), 0), "X != ? + 5": compare(variable("X"), api.OpNotEqual, c, 5)} {
			q := api.Query{Select: []string{"X"}, Goals: []api.Goal{match("q", variable("X")), g}}
			want := "select X where q(X), " + strings.ReplaceAll(format, "?", text)
			checkFormat(t, q, want)
			checkParse(t, want, q)
		}
	}
}

func TestFormatInvalid(t *testing.T) {
	checkFormat(t, api.Query{}, "")
	checkFormat(t, api.Query{Select: []string{"X"}}, "")
	checkFormat(t, api.Query{Select: []string{"X"}, Goals: []api.Goal{match("p", variable("Y"))}}, "")
	checkFormat(t, api.Query{Goals: []api.Goal{match("p", constant(word("\n")))}}, "")
	checkFormat(t, api.Query{Goals: []api.Goal{compare(constant(integer(1)), 7, constant(integer(1)), 0)}}, "")
	checkFormat(t, api.Query{Goals: []api.Goal{match("p", variable("X")), {Kind: 9}}}, "")
}

// P5.5 Parse

func TestParseSpaces(t *testing.T) {
	want := api.Query{Select: []string{"X", "Y"}, Goals: []api.Goal{match("p", variable("X"), constant(integer(-5))), absent("q", variable("Y")), within(variable("Y"), -3, 16), compare(variable("X"), api.OpLessEqual, constant(integer(-5)), 3)}}
	checkParse(t, "select X,Y where p(X,-5),not q(Y),Y in -3..0x10,X<=-5+3", want)
	checkParse(t, " # c\nselect\nX ,Y\twhere\rp ( X , - 5 ) , not # c\n q(Y), Y in - 3 .. 16,X <= - 5 + 3 # end", want)
}

func TestParseOperands(t *testing.T) {
	for text, o := range map[string]api.Operand{
		"X": variable("X"), "_": variable("_"), "A9_z": variable("A9_z"), "Select": variable("Select"), "Z" + strings.Repeat("z", 23): variable("Z" + strings.Repeat("z", 23)),
		"x": constant(word("x")), "_x": constant(word("_x")), "_X": constant(word("_X")), "__": constant(word("__")), "selected": constant(word("selected")), strings.Repeat("z", 24): constant(word(strings.Repeat("z", 24))),
		`"x"`: constant(word("x")), `"X"`: constant(word("X")), `"_"`: constant(word("_")), `"in"`: constant(word("in")), `"-5"`: constant(word("-5")), `"` + strings.Repeat(" ", 24) + `"`: constant(word(strings.Repeat(" ", 24))),
		"0": constant(integer(0)), "-0": constant(integer(0)), "0x10K": constant(integer(16384)), "-0x10": constant(integer(-16)), "9223372036854775807": constant(integer(math.MaxInt64)), "-9223372036854775807": constant(integer(-math.MaxInt64)), "-9223372036854775808": constant(integer(math.MinInt64)),
	} {
		checkParse(t, "select where p("+text+")", api.Query{Goals: []api.Goal{match("p", o)}})
		checkParse(t, "select where not p(1,"+text+")", api.Query{Goals: []api.Goal{absent("p", constant(integer(1)), o)}})
		checkParse(t, "select where "+text+" < "+text, api.Query{Goals: []api.Goal{compare(o, api.OpLess, o, 0)}})
		checkParse(t, "select where "+text+">="+text+"-5", api.Query{Goals: []api.Goal{compare(o, api.OpGreaterEqual, o, -5)}})
	}
}

// TestParseInvalid reads queries that are not valid.
func TestParseInvalid(t *testing.T) {
	long := strings.Repeat("p(1), ", 20) + "p(1)"
	q := api.Query{}
	for range 21 {
		q.Goals = append(q.Goals, match("p", constant(integer(1))))
	}
	checkParse(t, "select where "+long, q)
	nine := match("p", operandsOf(strings.Split("ABCDEFGHI", ""))...)
	checkParse(t, "select I,A,_,x,A,B,C,D,E,F where p(A,B,C,D,E,F,G,H,I)", api.Query{Select: strings.Split("IA_xABCDEF", ""), Goals: []api.Goal{nine}})
	checkParse(t, "select where x in 2 .. 1", api.Query{Goals: []api.Goal{within(constant(word("x")), 2, 1)}})
	checkParse(t, "select where _ in 1 .. 2", api.Query{Goals: []api.Goal{within(variable("_"), 1, 2)}})
	checkParse(t, "select where X in -9223372036854775808 .. 9223372036854775807", api.Query{Goals: []api.Goal{within(variable("X"), math.MinInt64, math.MaxInt64)}})
	checkParse(t, "select where _ = _ - 9223372036854775807", api.Query{Goals: []api.Goal{compare(variable("_"), api.OpEqual, variable("_"), -math.MaxInt64)}})
}

func TestParseSyntaxErrors(t *testing.T) {
	for _, test := range []struct {
		src string
		col int
	}{
		{"", 1}, {"  ", 3}, {"where p(X)", 1}, {"Select where p(X)", 1}, {`"select" where p(X)`, 1}, {"5", 1}, {"selected X", 1}, {"in", 1}, {strings.Repeat("s", 25), 1},
		{"select", 7}, {"select ", 8}, {"select X", 9}, {"select X,", 10}, {"select ,", 8}, {"select X Y where p(X)", 10}, {"select X; where p(X)", 9}, {"select select where p(X)", 8}, {"select not where p(X)", 8}, {"select in where p(X)", 8}, {"select 5 where p(X)", 8}, {`select "X" where p(X)`, 8}, {"select - where p(X)", 8},
		{"select X, where p(X)", 11}, {"select X, in where p(X)", 11}, {"select X,, Y where p(X)", 10}, {"select X . Y where p(X)", 10}, {`select X "where" p(X)`, 10}, {"select X " + strings.Repeat("a", 25), 10},
		{"select where", 13}, {"select where ", 14}, {"select where where p(X)", 14}, {"select where select(X)", 14}, {"select where in(X)", 14}, {"select where in = 1", 14}, {"select where in in 1 .. 2", 14}, {"select where where in 1 .. 2", 14}, {"select where , p(X)", 14}, {"select where (X)", 14}, {"select where + 5 = 5", 14}, {"select where = 5", 14},
		{"select where not", 17}, {"select where not not p(X)", 18}, {"select where not in(X)", 18}, {"select where not (X)", 18}, {"select where not(X)", 17}, {"select where not 5", 18}, {`select where not "p"(X)`, 18}, {"select where not X", 19}, {"select where not X = 1", 20}, {"select where not X in 1 .. 2", 20}, {"select where not = 1", 18},
		{"select where p(", 16}, {"select where p()", 16}, {"select where p(X", 17}, {"select where p(X,", 18}, {"select where p(X,)", 18}, {"select where p(,X)", 16}, {"select where p(X Y)", 18}, {"select where p(X;Y)", 17}, {"select where p(not)", 16}, {"select where p(X, where)", 19}, {"select where p(select)", 16}, {"select where p(in)", 16}, {"select where p(q(X))", 17}, {"select where p((X))", 16}, {"select where p(-)", 17}, {"select where p(-X)", 17}, {"select where p(--1)", 17}, {`select where p(-"1")`, 17}, {"select where p(+1)", 16}, {"select where p(X]", 17}, {"select where p[X)", 15}, {"select where p(X+1)", 17},
		{"select where p(X).", 18}, {"select where p(X) p(X)", 19}, {"select where p(X) = 1", 19}, {"select where p(X);", 18}, {"select where p(X),", 19}, {"select where p(X), ,", 20}, {"select where p(X) where", 19}, {"select where p(X) not p(X)", 19}, {"select where p(X) in 1 .. 2", 19},
		{"select where X", 15}, {"select where X,", 15}, {"select where X Y", 16}, {"select where X == 1", 17}, {"select where X ! 1", 16}, {"select where X -> 1", 16}, {"select where X - 1 = 2", 16}, {"select where X + 1 = 2", 16}, {"select where X : 1", 16}, {`select where X "=" 1`, 16}, {"select where X not 1", 16}, {"select where 5", 15}, {"select where 5(X)", 15}, {`select where "p"(X)`, 17}, {"select where -", 15}, {"select where -X = 1", 15}, {"select where -5(X)", 16}, {"select where - p(X)", 16},
		{"select where X =", 17}, {"select where X = where", 18}, {"select where X = in", 18}, {"select where X = not", 18}, {"select where X = = 1", 18}, {"select where X = -", 19}, {"select where X = - X", 20}, {"select where X = p(1)", 19}, {"select where X = (1)", 18}, {"select where X = 1 2", 20}, {"select where X = 1 = 1", 20}, {"select where X <> 1", 17}, {"select where X =< 1", 17},
		{"select where X = 1 +", 21}, {"select where X = 1 -", 21}, {"select where X = 1 + Y", 22}, {"select where X = 1 + -2", 22}, {"select where X = 1 - -2", 22}, {"select where X = 1 - Y", 22}, {`select where X = 1 + "2"`, 22}, {"select where X = 1 + 2 + 3", 24}, {"select where X = 1 - 2 - 3", 24}, {"select where X = 1 * 2", 20}, {"select where X = Y in 1 .. 2", 20},
		{"select where X in", 18}, {"select where X in Y .. 2", 19}, {"select where X in 1", 20}, {"select where X in 1 2", 21}, {"select where X in 1 . 2", 21}, {"select where X in 1 ..", 23}, {"select where X in 1 .. Y", 24}, {"select where X in 1 .. -", 25}, {"select where X in - .. 2", 21}, {"select where X in -- 1 .. 2", 20}, {`select where X in "1" .. 2`, 19}, {"select where X in 1 .. 2 + 1", 26}, {"select where X in 1 .. 2 .. 3", 26}, {"select where X in (1)", 19}, {"select where 5 in 1 .. 2", 16}, {"select where -5 in 1 .. 2", 17}, {`select where "X" in 1 .. 2`, 18}, {"select where X in in 1 .. 2", 19}, {"select where X in + 1 .. 2", 19},
	} {
		checkParseError(t, test.src, 1, test.col, api.ErrSyntax)
		checkParseError(t, "# c\n\n "+test.src, 3, test.col+1, api.ErrSyntax)
	}
	checkParseError(t, "select X where p(X),\n # c\n", 3, 1, api.ErrSyntax)
}

func TestParseScanErrors(t *testing.T) {
	checkParseError(t, "select where p(X) $", 1, 19, api.ErrSyntax)
	checkParseError(t, "5 5\n12a", 2, 1, api.ErrSyntax)
	checkParseError(t, `select where p("a)`, 1, 16, api.ErrSyntax)
	checkParseError(t, "5 . ( 18446744073709551616", 1, 7, api.ErrRange)
	src := "select where p(1)"
	checkParse(t, src+strings.Repeat(" ", api.MaxTextLen-len(src)), api.Query{Goals: []api.Goal{match("p", constant(integer(1)))}})
	checkParseError(t, src+strings.Repeat(" ", api.MaxTextLen-len(src)+1), 0, 0, api.ErrLimit)
}

func TestParseRangeErrors(t *testing.T) {
	const half, more = "9223372036854775808", "9223372036854775809"
	for _, test := range []struct {
		src string
		col int
		err api.Errno
	}{
		{"select where p(" + half + ")", 16, api.ErrRange}, {"select where p(X, 18446744073709551615 ;", 19, api.ErrRange}, {"select where p(-" + more + ")", 17, api.ErrRange}, {"select where p(- 18446744073709551615)", 18, api.ErrRange},
		{"select where not p(" + half + ")", 20, api.ErrRange}, {"select where " + half, 14, api.ErrRange}, {"select where " + half + "(X)", 14, api.ErrRange}, {"select where -" + more + " = 1", 15, api.ErrRange}, {"select where X = " + half, 18, api.ErrRange}, {"select where X = -" + more, 19, api.ErrRange},
		{"select where X = 1 + " + half, 22, api.ErrRange}, {"select where X = 1 - " + half, 22, api.ErrRange}, {"select where X = -1 - " + half, 23, api.ErrRange}, {"select where X = Y - " + half, 22, api.ErrRange}, {`select where X = "y" - ` + half, 24, api.ErrRange}, {"select where X = - " + half + " - " + half, 42, api.ErrRange},
		{"select where X in " + half + " .. 1", 19, api.ErrRange}, {"select where X in -" + more + " .. 1", 20, api.ErrRange}, {"select where X in 1 .. " + half, 24, api.ErrRange}, {"select where X in 1 .. -" + more, 25, api.ErrRange},
		{"select where X = 1 " + half, 20, api.ErrSyntax}, {"select " + half, 8, api.ErrSyntax}, {half, 1, api.ErrSyntax}, {"select where not " + half, 18, api.ErrSyntax},
	} {
		checkParseError(t, test.src, 1, test.col, test.err)
	}
	checkParse(t, "select where X = 1 - 9223372036854775807", api.Query{Goals: []api.Goal{compare(variable("X"), 1, constant(integer(1)), -math.MaxInt64)}})
	checkParse(t, "select where X = 1 + 9223372036854775807", api.Query{Goals: []api.Goal{compare(variable("X"), 1, constant(integer(1)), math.MaxInt64)}})
	checkParse(t, "select where X = 1 - 0", api.Query{Goals: []api.Goal{compare(variable("X"), 1, constant(integer(1)), 0)}})
	checkParse(t, "select where X = 1 + 0", api.Query{Goals: []api.Goal{compare(variable("X"), 1, constant(integer(1)), 0)}})
}

func TestParseNameErrors(t *testing.T) {
	long := strings.Repeat("a", 25)
	for _, test := range []struct {
		src string
		col int
		err api.Errno
	}{
		{"select " + long + " where p(X)", 8, api.ErrName}, {"select X, " + long, 11, api.ErrName}, {"select X" + long + ";", 8, api.ErrName},
		{"select where " + long + "(X)", 14, api.ErrName}, {"select where " + long, 14, api.ErrName}, {"select where " + long + " in 1 .. 2", 14, api.ErrName}, {"select where X" + long + " in 1 .. 2", 14, api.ErrName}, {"select where " + long + " = 1", 14, api.ErrName}, {"select where not " + long + " ;", 18, api.ErrName}, {"select where " + long + " 5", 14, api.ErrName},
		{"select where p(" + long + ")", 16, api.ErrName}, {`select where p("")`, 16, api.ErrName}, {`select where p(X, "" ;`, 19, api.ErrName}, {`select where p("` + long + `")`, 16, api.ErrName}, {`select where X = ""`, 18, api.ErrName}, {`select where "" = X`, 14, api.ErrName}, {`select where ""(X)`, 14, api.ErrName}, {`select where "" in 1 .. 2`, 14, api.ErrName}, {"select where X = " + long, 18, api.ErrName}, {`select where "` + long + `" = 1`, 14, api.ErrName},
		{"select where X " + long, 16, api.ErrSyntax}, {`select where X ""`, 16, api.ErrSyntax}, {`select ""`, 8, api.ErrSyntax}, {`select where not ""`, 18, api.ErrSyntax}, {"select where X in " + long, 19, api.ErrSyntax}, {"select where X = 1 + " + long, 22, api.ErrSyntax}, {"select where p(-" + long + ")", 17, api.ErrSyntax}, {`""`, 1, api.ErrSyntax},
		{`select where p("", 9223372036854775808)`, 16, api.ErrName}, {`select where p(9223372036854775808, "")`, 16, api.ErrRange},
	} {
		checkParseError(t, test.src, 1, test.col, test.err)
	}
}

func TestParseHasItsOwnMemory(t *testing.T) {
	src := "select X, Y where p(X, Y, 1), not p(X, Y, 2), p(Y, X, 3)"
	q, want := parsed(t, src), parsed(t, src)
	for i := range q.Goals {
		args := q.Goals[i].Args[:cap(q.Goals[i].Args)]
		for j := range args {
			args[j] = variable("Overwritten")
		}
		for k := i + 1; k < len(q.Goals); k++ {
			if !sameGoal(q.Goals[k], want.Goals[k]) {
				t.Error("two goals share memory")
			}
		}
	}
	checkParse(t, src, want)
}

// P5.6

func TestParseOfFormat(t *testing.T) {
	r := rand.New(rand.NewSource(8))
	for range 20000 {
		values := plainValues()
		for range 10 {
			values = append(values, randomValue(r))
		}
		q := randomQuery(r, values)
		checkParse(t, query.Format(q), q)
	}
	var q api.Query
	for range api.MaxGoals {
		q.Goals = append(q.Goals, absent(strings.Repeat("r", 24), operandsOf(strings.Split("________", ""))...))
		for i := range api.MaxArity {
			q.Goals[0].Args[i] = constant(word(strings.Repeat(" ", 24)))
		}
	}
	checkParse(t, query.Format(q), q)
}

func randomValue(r *rand.Rand) api.Value {
	if r.Intn(2) == 0 {
		return integer(int64(r.Uint64()) >> r.Intn(64))
	}
	const inString = " !#$%'()+-,.;{}09AZ[]^_az|~"
	var text string
	for range 1 + r.Intn(1+r.Intn(api.MaxNameLen)) {
		text += inString[r.Intn(len(inString)):][:1]
	}
	return word(text)
}
