package query_test

import (
	"math"
	"math/rand"
	"regexp"
	"strconv"
	"strings"
	"testing"

	"multikernel/api"
	"multikernel/query"
)

// basis returns a valid query with a goal of each kind.
func basis() api.Query {
	x, y := variable("X"), variable("Y")
	return api.Query{
		Select: []string{"X", "Y"},
		Goals:  []api.Goal{match("p", x, constant(word("a")), variable("_")), within(y, 1, 9), absent("q", y, variable("_")), compare(x, api.OpLess, y, 3)},
	}
}

// names returns n different variables.
func names(n int) []string {
	var list []string
	for i := range n {
		list = append(list, "V"+strconv.Itoa(i))
	}
	return list
}

func operandsOf(names []string) []api.Operand {
	var list []api.Operand
	for _, name := range names {
		list = append(list, variable(name))
	}
	return list
}

func checkGoal(t *testing.T, g api.Goal, want api.Errno) {
	t.Helper()
	checkValidate(t, api.Query{Goals: []api.Goal{g}}, want)
	q := basis()
	q.Goals = append(q.Goals, g)
	checkValidate(t, q, want)
	q.Goals = append([]api.Goal{g}, basis().Goals...)
	checkValidate(t, q, want)
}

// P5.3, rule 1

func TestValidQueries(t *testing.T) {
	checkValidate(t, basis(), api.OK)
	q := basis()
	q.Select = nil
	checkValidate(t, q, api.OK)
	checkGoal(t, match("p", variable("_")), api.OK)
	checkGoal(t, match("P", variable("X"), variable("X")), api.OK)
	checkGoal(t, match("_", constant(integer(0))), api.OK)
	checkGoal(t, absent("p", variable("_"), constant(word("X"))), api.OK)
	checkGoal(t, compare(constant(integer(1)), api.OpLess, constant(word("a")), 0), api.OK)
}

func TestNumberOfGoals(t *testing.T) {
	checkValidate(t, api.Query{}, api.ErrLimit)
	checkValidate(t, api.Query{Select: []string{"X"}, Goals: []api.Goal{}}, api.ErrLimit)
	for n, want := range map[int]api.Errno{15: api.OK, 16: api.OK, 17: api.ErrLimit, 1000: api.ErrLimit} {
		var q api.Query
		for range n {
			q.Goals = append(q.Goals, match("p", variable("X")))
		}
		checkValidate(t, q, want)
	}
	checkValidate(t, api.Query{Goals: make([]api.Goal, 16)}, api.ErrSyntax)
	checkValidate(t, api.Query{Goals: make([]api.Goal, 17)}, api.ErrLimit)
}

func TestLengthOfSelect(t *testing.T) {
	q := api.Query{Select: names(8), Goals: []api.Goal{match("p", operandsOf(names(8))...)}}
	checkValidate(t, q, api.OK)
	q.Select = append(q.Select, "V0")
	checkValidate(t, q, api.ErrLimit)
	q.Select = make([]string, 9)
	checkValidate(t, q, api.ErrLimit)
	q.Select = make([]string, 8)
	checkValidate(t, q, api.ErrName)
}

func TestNumberOfVariables(t *testing.T) {
	eight := match("p", operandsOf(names(8))...)
	for _, g := range []api.Goal{
		match("q", variable("W")),
		absent("q", variable("W")),
		match("q", variable("w")),
		match("q", api.Operand{Var: "W", Const: integer(1)}),
		match("q", variable(strings.Repeat("W", 30))),
		compare(variable("W"), 0, variable("V0"), 0),
		compare(variable("V0"), 9, variable("W"), 0),
		within(variable("W"), 2, 1),
	} {
		checkValidate(t, api.Query{Goals: []api.Goal{eight, g}}, api.ErrLimit)
		checkValidate(t, api.Query{Goals: []api.Goal{g, eight}}, api.ErrLimit)
	}
	for _, g := range []api.Goal{match("q", variable("V7"), variable("_")), absent("q", variable("V0")), compare(variable("V0"), 1, variable("V1"), 0), within(variable("V3"), 1, 2)} {
		checkValidate(t, api.Query{Goals: []api.Goal{eight, g}}, api.OK)
	}
	w := variable("W")
	for _, g := range []api.Goal{{Args: []api.Operand{w}}, {Kind: 5, Left: w, Right: w}, {Kind: -1, Left: w}, {Kind: api.GoalCompare, Args: []api.Operand{w}}, {Kind: api.GoalRange, Left: variable("V0"), Right: w}, {Kind: api.GoalMatch, Relation: "p", Args: eight.Args, Left: w, Right: w}} {
		checkValidate(t, api.Query{Goals: []api.Goal{eight, g}}, api.ErrSyntax)
	}
	checkValidate(t, api.Query{Select: []string{"W"}, Goals: []api.Goal{eight}}, api.ErrLimit)
	checkValidate(t, api.Query{Select: []string{"w"}, Goals: []api.Goal{eight}}, api.ErrLimit)
	checkValidate(t, api.Query{Select: []string{"_"}, Goals: []api.Goal{eight}}, api.ErrName)
	checkValidate(t, api.Query{Select: []string{""}, Goals: []api.Goal{eight}}, api.ErrName)
	checkValidate(t, api.Query{Select: []string{"V7"}, Goals: []api.Goal{eight}}, api.OK)
}

func TestNumberOfArguments(t *testing.T) {
	for n, want := range map[int]api.Errno{0: api.ErrLimit, 1: api.OK, 8: api.OK, 9: api.ErrLimit, 1000: api.ErrLimit} {
		var args []api.Operand
		for range n {
			args = append(args, variable("_"))
		}
		checkGoal(t, match("p", args...), want)
		checkGoal(t, absent("p", args...), want)
	}
	for _, kind := range []int{0, 5} {
		checkGoal(t, api.Goal{Kind: kind, Args: make([]api.Operand, 9)}, api.ErrSyntax)
	}
}

// P5.3, rule 2

func TestKinds(t *testing.T) {
	for _, kind := range []int{0, -1, 5, math.MinInt, math.MaxInt} {
		checkGoal(t, api.Goal{Kind: kind}, api.ErrSyntax)
		checkGoal(t, api.Goal{Kind: kind, Relation: "p", Args: []api.Operand{variable("X")}}, api.ErrSyntax)
		checkGoal(t, api.Goal{Kind: kind, Left: variable("X"), High: 2}, api.ErrSyntax)
	}
}

func TestUnusedFields(t *testing.T) {
	x := variable("X")
	for _, g := range []api.Goal{match("p", x), absent("p", variable("_")), compare(constant(integer(1)), 1, constant(integer(1)), 1), within(x, 1, 2)} {
		checkGoal(t, g, api.OK)
		for field, change := range map[string]func(*api.Goal){
			"Relation": func(g *api.Goal) { g.Relation = "p" },
			"Args":     func(g *api.Goal) { g.Args = []api.Operand{constant(integer(1))} },
			"Op":       func(g *api.Goal) { g.Op = api.OpLess },
			"Left":     func(g *api.Goal) { g.Left = x },
			"Right":    func(g *api.Goal) { g.Right = constant(integer(0)) },
			"Offset":   func(g *api.Goal) { g.Offset = -1 },
			"Low":      func(g *api.Goal) { g.Low = -1 },
			"High":     func(g *api.Goal) { g.High = 3 },
		} {
			used := map[int]string{api.GoalMatch: "Relation Args", api.GoalAbsent: "Relation Args", api.GoalCompare: "Left Op Right Offset", api.GoalRange: "Left Low High"}[g.Kind]
			changed, want := g, api.ErrSyntax
			change(&changed)
			if strings.Contains(used, field) {
				want = api.OK
			}
			q := api.Query{Goals: []api.Goal{match("p", x), changed}}
			checkValidate(t, q, want)
		}
		g.Args = append([]api.Operand{}, g.Args...)
		checkGoal(t, g, api.OK)
	}
}

func TestTwofoldOperands(t *testing.T) {
	for _, c := range []api.Value{integer(0), integer(1), word("X"), {Int: 1}, {Word: "a"}, {Kind: 7}} {
		o := api.Operand{Var: "X", Const: c}
		for _, g := range []api.Goal{match("p", o), match("p", variable("X"), o), absent("p", o), compare(o, 1, constant(integer(1)), 0), compare(constant(integer(1)), 1, o, 0), within(o, 1, 2), match("p", api.Operand{Var: "_", Const: c})} {
			checkGoal(t, g, api.ErrSyntax)
		}
	}
}

func TestLeftOfRange(t *testing.T) {
	for _, left := range []api.Operand{{}, constant(integer(1)), constant(word("X")), constant(api.Value{Kind: 7})} {
		checkGoal(t, within(left, 1, 2), api.ErrSyntax)
	}
}

// P5.3, rule 3

func TestRelations(t *testing.T) {
	for relation, want := range map[string]api.Errno{
		"p": api.OK, "P": api.OK, "_": api.OK, "_9": api.OK, "Select": api.OK, "wher": api.OK, "nots": api.OK, "_in": api.OK, strings.Repeat("a", 24): api.OK,
		"": api.ErrName, "1": api.ErrName, "a b": api.ErrName, "a-": api.ErrName, strings.Repeat("a", 25): api.ErrName,
		"select": api.ErrName, "where": api.ErrName, "not": api.ErrName, "in": api.ErrName,
	} {
		checkGoal(t, match(relation, constant(integer(1))), want)
		checkGoal(t, absent(relation, constant(integer(1))), want)
	}
}

func TestVariableNames(t *testing.T) {
	for name, want := range map[string]api.Errno{
		"X": api.OK, "A": api.OK, "Z": api.OK, "Select": api.OK, "X_9y": api.OK, "Z" + strings.Repeat("z", 23): api.OK,
		"x": api.ErrName, "a": api.ErrName, "z": api.ErrName, "_X": api.ErrName, "__": api.ErrName, "1X": api.ErrName, "X ": api.ErrName, "X-": api.ErrName, "[": api.ErrName, "@": api.ErrName, "Z" + strings.Repeat("z", 24): api.ErrName, "in": api.ErrName, "\u00c4": api.ErrName,
	} {
		v := variable(name)
		checkGoal(t, match("p", v), want)
		checkGoal(t, within(v, 1, 2), want)
		for _, g := range []api.Goal{absent("p", v), compare(v, 1, constant(integer(1)), 0), compare(constant(integer(1)), 1, v, 0)} {
			checkValidate(t, api.Query{Goals: []api.Goal{match("p", v), g}}, want)
			checkValidate(t, api.Query{Goals: []api.Goal{g, within(v, 1, 1)}}, want)
			if want != api.OK {
				checkValidate(t, api.Query{Goals: []api.Goal{g}}, want)
			}
		}
		checkValidate(t, api.Query{Select: []string{"Y", name}, Goals: []api.Goal{match("p", v, variable("Y"))}}, want)
	}
}

func TestNamesOfSelect(t *testing.T) {
	for _, name := range []string{"", "_", "x", "a b", "select"} {
		for _, list := range [][]string{{name}, {"X", name}, {name, "X"}, {name, name}} {
			checkValidate(t, api.Query{Select: list, Goals: basis().Goals}, api.ErrName)
		}
	}
}

func TestAnyValueElsewhere(t *testing.T) {
	any := variable("_")
	checkGoal(t, compare(any, 1, constant(integer(1)), 0), api.ErrName)
	checkGoal(t, compare(constant(integer(1)), 1, any, 0), api.ErrName)
	checkGoal(t, within(any, 1, 2), api.ErrName)
	checkGoal(t, absent("p", any, any), api.OK)
	checkGoal(t, match("p", any, any), api.OK)
}

func TestConstants(t *testing.T) {
	check := func(v api.Value, want api.Errno) {
		t.Helper()
		c, one := constant(v), constant(integer(1))
		for _, g := range []api.Goal{match("p", c), match("p", variable("_"), c), absent("p", c), absent("p", c, variable("_")), compare(c, 1, one, 0), compare(one, 1, c, 0), compare(c, 3, c, 5)} {
			checkGoal(t, g, want)
		}
	}
	for _, v := range plainValues() {
		check(v, api.OK)
	}
	for _, v := range oddValues() {
		check(v, api.ErrName)
	}
}

// P5.3, rules 4 to 6

func TestOps(t *testing.T) {
	one := constant(integer(1))
	for _, op := range []int{1, 2, 3, 4, 5, 6} {
		checkGoal(t, compare(one, op, one, 0), api.OK)
	}
	for _, op := range []int{0, 7, -1, math.MinInt, math.MaxInt} {
		checkGoal(t, compare(one, op, one, 0), api.ErrRange)
	}
}

func TestOffsets(t *testing.T) {
	one := constant(integer(1))
	for _, offset := range []int64{0, 1, -1, math.MaxInt64, -math.MaxInt64} {
		checkGoal(t, compare(one, 1, one, offset), api.OK)
	}
	checkGoal(t, compare(one, 1, one, math.MinInt64), api.ErrRange)
}

func TestRanges(t *testing.T) {
	for _, test := range []struct {
		low, high int64
		want      api.Errno
	}{
		{0, 0, api.OK}, {-5, 5, api.OK}, {0, api.MaxWork, api.OK}, {1, api.MaxWork + 1, api.OK}, {math.MaxInt64, math.MaxInt64, api.OK}, {math.MinInt64, math.MinInt64, api.OK}, {math.MinInt64, math.MinInt64 + api.MaxWork, api.OK}, {math.MaxInt64 - api.MaxWork, math.MaxInt64, api.OK},
		{1, 0, api.ErrRange}, {math.MaxInt64, math.MinInt64, api.ErrRange}, {0, api.MaxWork + 1, api.ErrRange}, {-1, api.MaxWork, api.ErrRange}, {math.MinInt64, math.MaxInt64, api.ErrRange}, {math.MinInt64, 0, api.ErrRange}, {0, math.MaxInt64, api.ErrRange}, {-1, math.MaxInt64, api.ErrRange}, {math.MinInt64, math.MinInt64 + api.MaxWork + 1, api.ErrRange},
	} {
		checkGoal(t, within(variable("X"), test.low, test.high), test.want)
	}
}

func TestDuplicates(t *testing.T) {
	goals := []api.Goal{match("p", variable("X"), variable("Y"), variable("Z"))}
	for _, list := range [][]string{{"X", "X"}, {"X", "Y", "X"}, {"Y", "X", "X"}, {"X", "Y", "Z", "Z"}} {
		checkValidate(t, api.Query{Select: list, Goals: goals}, api.ErrDuplicate)
	}
	checkValidate(t, api.Query{Select: []string{"Z", "X", "Y"}, Goals: goals}, api.OK)
	checkValidate(t, api.Query{Select: []string{"U", "U"}, Goals: goals}, api.ErrDuplicate)
}

func TestUnsafe(t *testing.T) {
	x, u, one := variable("X"), variable("U"), constant(integer(1))
	checkValidate(t, api.Query{Select: []string{"U"}, Goals: []api.Goal{match("p", x)}}, api.ErrUnsafe)
	checkValidate(t, api.Query{Select: []string{"X", "U"}, Goals: []api.Goal{match("p", x)}}, api.ErrUnsafe)
	for _, g := range []api.Goal{absent("p", u), absent("p", x, u), compare(u, 1, one, 0), compare(one, 1, u, 0), compare(u, 1, x, 0), compare(x, 1, u, 0), compare(u, 1, u, 0)} {
		checkValidate(t, api.Query{Goals: []api.Goal{match("p", x), g}}, api.ErrUnsafe)
		checkValidate(t, api.Query{Goals: []api.Goal{g, match("p", x)}}, api.ErrUnsafe)
		checkValidate(t, api.Query{Goals: []api.Goal{g, match("p", x), match("p", one, u)}}, api.OK)
		checkValidate(t, api.Query{Goals: []api.Goal{within(u, 1, 2), match("p", x), g}}, api.OK)
	}
}

// TestOrderOfErrors applies each two faults of different rules to one query.
func TestOrderOfErrors(t *testing.T) {
	add := func(g api.Goal) func(*api.Query) {
		return func(q *api.Query) { q.Goals = append(q.Goals, g) }
	}
	one := constant(integer(1))
	rules := []struct {
		err    api.Errno
		faults []func(*api.Query)
	}{
		{api.ErrLimit, []func(*api.Query){add(match("p")), add(absent("p", make([]api.Operand, 9)...)), func(q *api.Query) { q.Select = append(q.Select, names(7)...) }, func(q *api.Query) { q.Goals = append(q.Goals, make([]api.Goal, 17)...) }, add(match("p", operandsOf(names(7))...))}},
		{api.ErrSyntax, []func(*api.Query){add(api.Goal{}), add(api.Goal{Kind: api.GoalMatch, Relation: "p", Args: []api.Operand{one}, High: 1}), add(match("p", api.Operand{Var: "X", Const: integer(1)})), add(within(one, 1, 2))}},
		{api.ErrName, []func(*api.Query){add(match("in", one)), add(match("p", variable("x"))), add(within(variable("_"), 1, 2)), add(match("p", api.Operand{})), func(q *api.Query) { q.Select = append(q.Select, "") }}},
		{api.ErrRange, []func(*api.Query){add(compare(one, 0, one, 0)), add(compare(one, 1, one, math.MinInt64)), add(within(variable("X"), 2, 1)), add(within(variable("X"), 0, math.MaxInt64))}},
		{api.ErrDuplicate, []func(*api.Query){func(q *api.Query) { q.Select = append(q.Select, "X") }}},
		{api.ErrUnsafe, []func(*api.Query){add(absent("p", variable("U"))), add(compare(one, 1, variable("U"), 0)), func(q *api.Query) { q.Select = append(q.Select, "U") }}},
	}
	for i, first := range rules {
		for _, a := range first.faults {
			q := basis()
			a(&q)
			checkValidate(t, q, first.err)
			for _, second := range rules[i+1:] {
				for _, b := range second.faults {
					q, p := basis(), basis()
					a(&q)
					b(&q)
					checkValidate(t, q, first.err)
					b(&p)
					a(&p)
					checkValidate(t, p, first.err)
					checkSolveError(t, nil, p, first.err)
					checkFormat(t, p, "")
				}
			}
		}
	}
}

var (
	variableForm = regexp.MustCompile(`^[A-Z][A-Za-z0-9_]{0,23}$`)
	nameForm     = regexp.MustCompile(`^[A-Za-z_][A-Za-z0-9_]{0,23}$`)
	stringForm   = regexp.MustCompile(`^[ !#-\[\]-~]{1,24}$`)
)

// referenceOperands returns the operands that g uses, and whether each may be `_`.
func referenceOperands(g api.Goal) ([]api.Operand, bool) {
	return map[int][]api.Operand{api.GoalMatch: g.Args, api.GoalAbsent: g.Args, api.GoalCompare: {g.Left, g.Right}, api.GoalRange: {g.Left}}[g.Kind], g.Kind < api.GoalCompare
}

// referenceErrors says P5.3 once more: it collects all errors of q.
func referenceErrors(q api.Query) map[api.Errno]bool {
	errs := map[api.Errno]bool{}
	all, safe, selected := map[string]bool{"": true, "_": true}, map[string]bool{"": true, "_": true}, map[string]bool{}
	for _, name := range q.Select {
		errs[api.ErrName] = errs[api.ErrName] || !variableForm.MatchString(name)
		errs[api.ErrDuplicate] = errs[api.ErrDuplicate] || selected[name]
		all[name], selected[name] = true, true
	}
	for _, g := range q.Goals {
		used, tuple := referenceOperands(g)
		plain := api.Goal{Kind: g.Kind}
		switch g.Kind {
		case api.GoalMatch, api.GoalAbsent:
			errs[api.ErrLimit] = errs[api.ErrLimit] || len(used) == 0 || len(used) > 8
			errs[api.ErrName] = errs[api.ErrName] || !nameForm.MatchString(g.Relation) || strings.Contains(" select where not in ", " "+g.Relation+" ")
			plain.Relation, plain.Args = g.Relation, g.Args
		case api.GoalCompare:
			errs[api.ErrRange] = errs[api.ErrRange] || g.Op <= 0 || g.Op >= 7 || g.Offset < -math.MaxInt64
			plain.Left, plain.Op, plain.Right, plain.Offset = g.Left, g.Op, g.Right, g.Offset
		case api.GoalRange:
			errs[api.ErrRange] = errs[api.ErrRange] || !(g.Low <= g.High && (g.High <= math.MinInt64+1000000 || g.High-1000000 <= g.Low))
			errs[api.ErrSyntax] = errs[api.ErrSyntax] || g.Left.Var == ""
			plain.Left, plain.Low, plain.High = g.Left, g.Low, g.High
		default:
			errs[api.ErrSyntax] = true
		}
		errs[api.ErrSyntax] = errs[api.ErrSyntax] || !sameGoal(g, plain)
		for _, o := range used {
			all[o.Var] = true
			safe[o.Var] = safe[o.Var] || g.Kind == api.GoalMatch || g.Kind == api.GoalRange
			switch {
			case o.Var != "":
				errs[api.ErrSyntax] = errs[api.ErrSyntax] || o.Const != api.Value{}
				errs[api.ErrName] = errs[api.ErrName] || !variableForm.MatchString(o.Var) && !(o.Var == "_" && tuple)
			case o.Const.Kind == api.IntValue:
				errs[api.ErrName] = errs[api.ErrName] || o.Const.Word != ""
			default:
				errs[api.ErrName] = errs[api.ErrName] || o.Const.Kind != api.WordValue || o.Const.Int != 0 || !stringForm.MatchString(o.Const.Word)
			}
		}
	}
	errs[api.ErrLimit] = errs[api.ErrLimit] || len(q.Goals) == 0 || len(q.Goals) > 16 || len(q.Select) > 8 || len(all)-2 > 8
	for name := range all {
		errs[api.ErrUnsafe] = errs[api.ErrUnsafe] || !safe[name]
	}
	return errs
}

// spoiled returns q with a change that may make it invalid.
func spoiled(r *rand.Rand, q api.Query) api.Query {
	odd := append(oddValues(), plainValues()...)
	operand := func() api.Operand {
		return pick(r, []api.Operand{{}, variable("X"), variable("_"), variable("x"), variable("U"), constant(pick(r, odd)), constant(integer(1)), {Var: "Y", Const: integer(1)}})
	}
	if r.Intn(4) == 0 || len(q.Goals) == 0 {
		q.Select = append(q.Select, pick(r, []string{"X", "Y", "U", "_", "", "x", "Long" + strings.Repeat("g", 21)}))
		return q
	}
	i := r.Intn(len(q.Goals))
	switch g := &q.Goals[i]; r.Intn(12) {
	case 0:
		g.Kind = pick(r, []int{0, 1, 2, 3, 4, 5, -1})
	case 1:
		g.Relation = pick(r, []string{"", "p", "in", "not", "a b", "P", "1"})
	case 2:
		g.Args = append(g.Args, operand())
	case 3:
		g.Args = nil
	case 4:
		g.Op = pick(r, []int{0, 1, 6, 7, -1})
	case 5, 6:
		g.Left = operand()
	case 7, 8:
		g.Right = operand()
	case 9:
		g.Offset = pick(r, []int64{0, 1, math.MinInt64, math.MaxInt64})
	case 10:
		g.Low, g.High = pick(r, []int64{0, 1, math.MinInt64, math.MaxInt64}), pick(r, []int64{0, 1, 1000000, 1000001, math.MinInt64, math.MaxInt64})
	case 11:
		for range r.Intn(18) {
			q.Goals = append(q.Goals, *g)
		}
	}
	return q
}

func TestValidateAgainstReference(t *testing.T) {
	r := rand.New(rand.NewSource(1))
	counts := map[api.Errno]int{}
	for range 60000 {
		q := randomQuery(r, plainValues())
		for range r.Intn(4) {
			q = spoiled(r, cloneQuery(q))
		}
		errs, want := referenceErrors(q), api.OK
		for _, err := range []api.Errno{api.ErrLimit, api.ErrSyntax, api.ErrName, api.ErrRange, api.ErrDuplicate, api.ErrUnsafe} {
			if errs[err] {
				want = err
				break
			}
		}
		counts[want]++
		checkValidate(t, q, want)
		if (query.Format(q) == "") != (want != api.OK) {
			t.Errorf("%v: %q, error %d", q, query.Format(q), want)
		}
		if t.Failed() {
			return
		}
	}
	for _, err := range []api.Errno{api.OK, api.ErrLimit, api.ErrSyntax, api.ErrName, api.ErrRange, api.ErrDuplicate, api.ErrUnsafe} {
		if counts[err] < 300 {
			t.Error("error", err, "occurs", counts[err], "times")
		}
	}
}
