package query_test

import (
	"math/big"
	"math/rand"
	"slices"
	"testing"

	"multikernel/api"
	"multikernel/query"
)

func valueUnder(o api.Operand, assignment map[string]api.Value) api.Value {
	if o.Var != "" {
		return assignment[o.Var]
	}
	return o.Const
}

// matches reports whether db contains a fact that fits a GoalMatch or GoalAbsent.
func matches(db []api.Fact, g api.Goal, assignment map[string]api.Value) bool {
	return slices.ContainsFunc(db, func(f api.Fact) bool {
		if f.Relation != g.Relation || len(f.Args) != len(g.Args) {
			return false
		}
		for i, o := range g.Args {
			if o.Var != "_" && valueUnder(o, assignment) != f.Args[i] {
				return false
			}
		}
		return true
	})
}

// holds says P5.2 once more.
func holds(db []api.Fact, g api.Goal, assignment map[string]api.Value) bool {
	left, right := valueUnder(g.Left, assignment), valueUnder(g.Right, assignment)
	switch g.Kind {
	case api.GoalMatch:
		return matches(db, g, assignment)
	case api.GoalAbsent:
		return !matches(db, g, assignment)
	case api.GoalRange:
		return left.Kind == api.IntValue && left.Word == "" && left.Int >= g.Low && left.Int <= g.High
	}
	if g.Offset == 0 && g.Op <= api.OpNotEqual {
		return (left == right) == (g.Op == api.OpEqual)
	}
	if left.Kind != api.IntValue || right.Kind != api.IntValue {
		return false
	}
	sum := new(big.Int).Add(big.NewInt(right.Int), big.NewInt(g.Offset))
	order := big.NewInt(left.Int).Cmp(sum)
	return slices.Contains(map[int][]int{api.OpEqual: {0}, api.OpNotEqual: {-1, 1}, api.OpLess: {-1}, api.OpLessEqual: {-1, 0}, api.OpGreater: {1}, api.OpGreaterEqual: {0, 1}}[g.Op], order)
}

// domain returns all values that a variable can have in a solution.
func domain(db []api.Fact, q api.Query) []api.Value {
	set := map[api.Value]bool{}
	for _, f := range db {
		for _, v := range f.Args {
			set[v] = true
		}
	}
	for _, g := range q.Goals {
		for i := range g.High - g.Low + 1 {
			set[integer(g.Low+i)] = true
		}
	}
	var list []api.Value
	for v := range set {
		list = append(list, v)
	}
	return list
}

func variablesOf(q api.Query) []string {
	var list []string
	add := func(name string) {
		if name != "" && name != "_" && !slices.Contains(list, name) {
			list = append(list, name)
		}
	}
	for _, g := range q.Goals {
		add(g.Left.Var)
		add(g.Right.Var)
		for _, o := range g.Args {
			add(o.Var)
		}
	}
	return list
}

// reference tries all assignments of a valid query.
func reference(db []api.Fact, q api.Query) [][]api.Value {
	values, names := domain(db, q), variablesOf(q)
	assignment := map[string]api.Value{}
	var list [][]api.Value
	var try func(i int)
	try = func(i int) {
		if i < len(names) {
			for _, v := range values {
				assignment[names[i]] = v
				try(i + 1)
			}
			return
		}
		if slices.ContainsFunc(q.Goals, func(g api.Goal) bool { return !holds(db, g, assignment) }) {
			return
		}
		var solution []api.Value
		for _, name := range q.Select {
			solution = append(solution, assignment[name])
		}
		at := 0
		for at < len(list) && lessList(list[at], solution) {
			at++
		}
		if at == len(list) || !slices.Equal(list[at], solution) {
			list = slices.Insert(list, at, solution)
		}
	}
	try(0)
	return list
}

// fewValues returns some values so close to each other that goals often hold.
func fewValues(r *rand.Rand) []api.Value {
	values := []api.Value{integer(0), integer(1), integer(2), integer(-1), word("a"), word("b")}
	for range 2 {
		values = append(values, pick(r, plainValues()))
	}
	return values
}

// checkLeast checks Minimum against all solutions.
func checkLeast(t *testing.T, db []api.Fact, q api.Query, all [][]api.Value) {
	t.Helper()
	for i, name := range q.Select {
		var want [][]api.Value
		for _, s := range all {
			lesser := func(other []api.Value) bool { return other[i].Kind == api.IntValue && other[i].Int < s[i].Int }
			if s[i].Kind == api.IntValue && !slices.ContainsFunc(all, lesser) {
				want = append(want, s)
			}
		}
		if got, err := query.Minimum(db, q, name); err != api.OK || !sameLists(got, want) {
			t.Errorf("%s by %s over %v: %v, error %d, want %v", query.Format(q), name, db, got, err, want)
		}
	}
}

// checkHolds checks Holds for the solutions and for other lists of values.
func checkHolds(t *testing.T, r *rand.Rand, db []api.Fact, q api.Query, all [][]api.Value, values []api.Value) {
	t.Helper()
	lists := slices.Clone(all)
	for range 5 {
		var list []api.Value
		for range q.Select {
			list = append(list, pick(r, values))
		}
		lists = append(lists, list)
	}
	for _, list := range lists {
		want := slices.ContainsFunc(all, func(s []api.Value) bool { return slices.Equal(s, list) })
		if got, err := query.Holds(db, q, list); err != api.OK || got != want {
			t.Errorf("%s over %v, %v: %v, error %d, want %v", query.Format(q), db, list, got, err, want)
		}
	}
}

func TestSolveAgainstReference(t *testing.T) {
	r := rand.New(rand.NewSource(4))
	solved := 0
	for i := range 12000 {
		values := fewValues(r)
		db, q := randomFacts(r, r.Intn(12), values), randomQuery(r, values)
		if i%4 == 0 {
			odd := append(oddValues()[:8], api.Value{Kind: api.IntValue, Int: 1, Word: "a"}, api.Value{Kind: 3, Int: 1})
			db = append(db, randomFacts(r, 4, odd)...)
		}
		want := reference(db, q)
		if len(want) > 0 {
			solved++
		}
		checkSolve(t, db, q, want...)
		checkLeast(t, db, q, want)
		checkHolds(t, r, db, q, want, values)
		if t.Failed() {
			return
		}
	}
	if solved < 2000 {
		t.Error("only", solved, "queries have solutions")
	}
}

// P5.6

func TestOrderOfGoals(t *testing.T) {
	r := rand.New(rand.NewSource(5))
	for range 3000 {
		values := append(fewValues(r), oddValues()[6:8]...)
		db, q := randomFacts(r, 10, values), randomQuery(r, fewValues(r))
		want, _ := query.Solve(db, q)
		for range 3 {
			r.Shuffle(len(q.Goals), func(i, j int) { q.Goals[i], q.Goals[j] = q.Goals[j], q.Goals[i] })
			r.Shuffle(len(db), func(i, j int) { db[i], db[j] = db[j], db[i] })
			checkSolve(t, db, q, want...)
		}
	}
}

// isSubset reports whether each list of a is in b.
func isSubset(a, b [][]api.Value) bool {
	return !slices.ContainsFunc(a, func(s []api.Value) bool {
		return !slices.ContainsFunc(b, func(other []api.Value) bool { return slices.Equal(s, other) })
	})
}

func TestFurtherGoal(t *testing.T) {
	r := rand.New(rand.NewSource(6))
	fewer := 0
	for range 6000 {
		values := fewValues(r)
		q := randomQuery(r, values)
		db := randomFacts(r, 10, append(values, oddValues()[6:8]...))
		names := variablesOf(q)
		if len(names) == 0 {
			continue
		}
		before, _ := query.Solve(db, q)
		q.Goals = append(q.Goals, randomGoal(r, names, values))
		after, err := query.Solve(db, q)
		if err != api.OK || !isSubset(after, before) {
			t.Errorf("%s over %v: %v are not among %v", query.Format(q), db, after, before)
		}
		if len(after) < len(before) {
			fewer++
		}
	}
	if fewer < 500 {
		t.Error("only", fewer, "goals removed solutions")
	}
}

func TestFurtherFact(t *testing.T) {
	r := rand.New(rand.NewSource(7))
	more := 0
	for range 20000 {
		values := fewValues(r)
		q := randomQuery(r, values)
		db := randomFacts(r, 10, values)
		if slices.ContainsFunc(q.Goals, func(g api.Goal) bool { return g.Kind == api.GoalAbsent }) {
			continue
		}
		before, _ := query.Solve(db, q)
		after, _ := query.Solve(append(db, randomFacts(r, 1, values)...), q)
		if !isSubset(before, after) {
			t.Errorf("%s over %v: %v are not among %v", query.Format(q), db, before, after)
		}
		if len(after) > len(before) {
			more++
		}
	}
	if more < 300 {
		t.Error("only", more, "facts added solutions")
	}
}
