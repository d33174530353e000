package query_test

import (
	"math"
	"math/rand"
	"slices"
	"strings"
	"testing"

	"multikernel/api"
	"multikernel/query"
)

func integer(n int64) api.Value { return api.Value{Kind: api.IntValue, Int: n} }

func word(text string) api.Value { return api.Value{Kind: api.WordValue, Word: text} }

func fact(relation string, args ...api.Value) api.Fact {
	return api.Fact{Relation: relation, Args: args}
}

// integers returns the fact of a relation with these numbers.
func integers(relation string, numbers ...int64) api.Fact {
	f := api.Fact{Relation: relation}
	for _, n := range numbers {
		f.Args = append(f.Args, integer(n))
	}
	return f
}

// numbered returns the facts of a relation with the numbers from 1 to n.
func numbered(relation string, n int64) []api.Fact {
	var db []api.Fact
	for i := range n {
		db = append(db, integers(relation, i+1))
	}
	return db
}

func variable(name string) api.Operand { return api.Operand{Var: name} }

func constant(v api.Value) api.Operand { return api.Operand{Const: v} }

func match(relation string, args ...api.Operand) api.Goal {
	return api.Goal{Kind: api.GoalMatch, Relation: relation, Args: args}
}

func absent(relation string, args ...api.Operand) api.Goal {
	return api.Goal{Kind: api.GoalAbsent, Relation: relation, Args: args}
}

func compare(left api.Operand, op int, right api.Operand, offset int64) api.Goal {
	return api.Goal{Kind: api.GoalCompare, Left: left, Op: op, Right: right, Offset: offset}
}

func within(left api.Operand, low, high int64) api.Goal {
	return api.Goal{Kind: api.GoalRange, Left: left, Low: low, High: high}
}

// parsed returns a query that must be parsed without error.
func parsed(t *testing.T, src string) api.Query {
	t.Helper()
	q, pos, err := query.Parse(src)
	if err != api.OK || pos != (api.Pos{}) {
		t.Fatalf("%q: error %d at %v", src, err, pos)
	}
	return q
}

func sameGoal(a, b api.Goal) bool {
	return a.Kind == b.Kind && a.Relation == b.Relation && slices.Equal(a.Args, b.Args) && a.Op == b.Op &&
		a.Left == b.Left && a.Right == b.Right && a.Offset == b.Offset && a.Low == b.Low && a.High == b.High
}

func sameQuery(a, b api.Query) bool {
	return slices.Equal(a.Select, b.Select) && slices.EqualFunc(a.Goals, b.Goals, sameGoal)
}

func sameLists(a, b [][]api.Value) bool { return slices.EqualFunc(a, b, slices.Equal) }

func cloneQuery(q api.Query) api.Query {
	q.Select, q.Goals = slices.Clone(q.Select), slices.Clone(q.Goals)
	for i, g := range q.Goals {
		q.Goals[i].Args = slices.Clone(g.Args)
	}
	return q
}

func cloneFacts(db []api.Fact) []api.Fact {
	db = slices.Clone(db)
	for i, f := range db {
		db[i].Args = slices.Clone(f.Args)
	}
	return db
}

func sameFacts(a, b []api.Fact) bool {
	return slices.EqualFunc(a, b, func(f, g api.Fact) bool { return f.Relation == g.Relation && slices.Equal(f.Args, g.Args) })
}

// lessValue says the order of P4.1 once more.
func lessValue(a, b api.Value) bool {
	if a.Kind != b.Kind {
		return a.Kind < b.Kind
	}
	if a.Int != b.Int {
		return a.Int < b.Int
	}
	return a.Word < b.Word
}

func lessList(a, b []api.Value) bool {
	for i := range a {
		if a[i] != b[i] {
			return lessValue(a[i], b[i])
		}
	}
	return false
}

// checkSolve checks that the solutions are these, in this order.
func checkSolve(t *testing.T, db []api.Fact, q api.Query, want ...[]api.Value) {
	t.Helper()
	if got, err := query.Solve(db, q); err != api.OK || !sameLists(got, want) {
		t.Errorf("%s over %v: %v, error %d, want %v", query.Format(q), db, got, err, want)
	}
}

// checkSolveError checks that Solve, Minimum and Holds return an error and nothing else.
func checkSolveError(t *testing.T, db []api.Fact, q api.Query, want api.Errno) {
	t.Helper()
	if got, err := query.Solve(db, q); err != want || len(got) != 0 {
		t.Errorf("%v: %v, error %d, want %d", q, got, err, want)
	}
	for _, by := range append([]string{"", "Nothing"}, q.Select...) {
		if got, err := query.Minimum(db, q, by); err != want || len(got) != 0 {
			t.Errorf("%v, minimum by %q: %v, error %d, want %d", q, by, got, err, want)
		}
	}
	for _, n := range []int{0, 1, len(q.Select), len(q.Select) + 1} {
		if got, err := query.Holds(db, q, make([]api.Value, n)); err != want || got {
			t.Errorf("%v, %d values: %v, error %d, want %d", q, n, got, err, want)
		}
	}
}

func checkValidate(t *testing.T, q api.Query, want api.Errno) {
	t.Helper()
	before := cloneQuery(q)
	if err := query.Validate(q); err != want {
		t.Errorf("%v: error %d, want %d", q, err, want)
	}
	if !sameQuery(q, before) {
		t.Errorf("%v is changed", before)
	}
}

func checkFormat(t *testing.T, q api.Query, want string) {
	t.Helper()
	if got := query.Format(q); got != want {
		t.Errorf("%v: %q, want %q", q, got, want)
	}
}

func checkParse(t *testing.T, src string, want api.Query) {
	t.Helper()
	got, pos, err := query.Parse(src)
	if err != api.OK || pos != (api.Pos{}) || !sameQuery(got, want) {
		t.Errorf("%.200q: %v, error %d at %v, want %v", src, got, err, pos, want)
	}
}

// checkParseError checks that Parse returns nothing but an error and its position.
func checkParseError(t *testing.T, src string, line, col int, want api.Errno) {
	t.Helper()
	got, pos, err := query.Parse(src)
	if !sameQuery(got, api.Query{}) || err != want || pos != (api.Pos{Line: line, Col: col}) {
		t.Errorf("%.200q: %v, error %d at %v, want %d at %d:%d", src, got, err, pos, want, line, col)
	}
}

// oddValues are values that are not well formed.
func oddValues() []api.Value {
	return []api.Value{
		{},
		{Kind: -1},
		{Kind: 3, Int: 1},
		{Kind: 3, Word: "a"},
		{Kind: math.MinInt},
		{Kind: math.MaxInt, Int: math.MaxInt64, Word: "a"},
		{Kind: api.IntValue, Word: "a"},
		{Kind: api.IntValue, Int: 5, Word: "5"},
		{Kind: api.WordValue},
		{Kind: api.WordValue, Int: 1, Word: "a"},
		{Kind: api.WordValue, Int: math.MinInt64, Word: "a"},
		word(strings.Repeat("a", api.MaxNameLen+1)),
		word(strings.Repeat(" ", api.MaxNameLen+1)),
		word("a\n"),
		word("\x00"),
		word("\x7fa"),
		word("a\x80"),
		word("\u00e4"),
		word(`a"`),
		word(`\`),
	}
}

// plainValues are well-formed values.
func plainValues() []api.Value {
	return []api.Value{
		integer(0), integer(1), integer(-1), integer(math.MaxInt64), integer(math.MinInt64), integer(math.MinInt64 + 1),
		word("a"), word("_"), word("A"), word("X"), word("_a"), word("a1"), word("select"), word("where"), word("not"), word("in"), word("In"), word("selects"), word(strings.Repeat("z", api.MaxNameLen)), word(strings.Repeat("Z", api.MaxNameLen)),
		word(" "), word("0"), word("-5"), word("a b"), word("#"), word("1a"), word("p(1)."), word(", "), word(strings.Repeat("!", api.MaxNameLen)),
	}
}

func pick[T any](r *rand.Rand, list []T) T { return list[r.Intn(len(list))] }

// randomFacts returns facts of the relations p and q with one or two of the values.
func randomFacts(r *rand.Rand, n int, values []api.Value) []api.Fact {
	var db []api.Fact
	for range n {
		f := fact(pick(r, []string{"p", "q"}), pick(r, values))
		if r.Intn(2) == 0 {
			f.Args = append(f.Args, pick(r, values))
		}
		db = append(db, f)
	}
	return db
}

// randomGoal returns a goal over the relations of randomFacts.
func randomGoal(r *rand.Rand, names []string, values []api.Value) api.Goal {
	operand := func() api.Operand {
		if r.Intn(3) == 0 {
			return constant(pick(r, values))
		}
		return variable(pick(r, names))
	}
	switch kind := r.Intn(8); kind {
	case 0, 1, 2, 3:
		g := match(pick(r, []string{"p", "q"}), operand())
		if r.Intn(2) == 0 {
			g.Args = append(g.Args, operand())
		}
		if r.Intn(4) == 0 {
			g.Args[r.Intn(len(g.Args))] = variable("_")
		}
		if kind == 3 {
			g.Kind = api.GoalAbsent
		}
		return g
	case 4, 5, 6:
		offset := int64(0)
		if r.Intn(2) == 0 {
			offset = pick(r, []int64{1, -1, 2, -3, math.MaxInt64, -math.MaxInt64})
		}
		return compare(operand(), api.OpEqual+r.Intn(6), operand(), offset)
	}
	low := pick(r, []int64{-1, 0, 1, math.MaxInt64 - 2, math.MinInt64})
	return within(variable(pick(r, names)), low, low+int64(r.Intn(3)))
}

// randomQuery returns a valid query.
func randomQuery(r *rand.Rand, values []api.Value) api.Query {
	names := []string{"X", "Y", "Zed"}[:1+r.Intn(3)]
	for {
		var q api.Query
		for range 1 + r.Intn(4) {
			q.Goals = append(q.Goals, randomGoal(r, names, values))
		}
		q.Select = slices.Clone(names)
		r.Shuffle(len(names), func(i, j int) { q.Select[i], q.Select[j] = q.Select[j], q.Select[i] })
		q.Select = q.Select[:r.Intn(len(names)+1)]
		if query.Validate(q) == api.OK {
			return q
		}
	}
}
