package query_test

import (
	"math"
	"math/rand"
	"slices"
	"strings"
	"sync"
	"testing"

	"multikernel/api"
	"multikernel/query"
)

func row(values ...api.Value) []api.Value { return values }

// rows returns a list of one number each.
func rows(numbers ...int64) [][]api.Value {
	var list [][]api.Value
	for _, n := range numbers {
		list = append(list, row(integer(n)))
	}
	return list
}

// P5.2

func TestExample(t *testing.T) {
	db := []api.Fact{integers("p", 1, 2), integers("p", 2, 3)}
	checkSolve(t, db, parsed(t, "select X where p(X, Y), p(Y, _)"), rows(1)...)
}

func TestMatch(t *testing.T) {
	db := []api.Fact{integers("p", 3, 1), integers("p", 1, 1), fact("p", word("a"), integer(1)), integers("p", 1), integers("p", 5, 5, 5), integers("q", 7, 7), integers("p", 1, 2), integers("p", 1, 1)}
	for src, want := range map[string][][]api.Value{
		"select X where p(X)":                     rows(1),
		"select X where p(X, X)":                  rows(1),
		"select X where p(X, 1)":                  {row(integer(1)), row(integer(3)), row(word("a"))},
		"select X where p(a, X)":                  rows(1),
		"select X where p(\"a\", X)":              rows(1),
		"select X where p(X, _)":                  {row(integer(1)), row(integer(3)), row(word("a"))},
		"select X where p(_, X)":                  rows(1, 2),
		"select X, Y where p(X, Y)":               {row(integer(1), integer(1)), row(integer(1), integer(2)), row(integer(3), integer(1)), row(word("a"), integer(1))},
		"select Y, X where p(X, Y)":               {row(integer(1), integer(1)), row(integer(1), integer(3)), row(integer(1), word("a")), row(integer(2), integer(1))},
		"select X where p(X, X, X)":               rows(5),
		"select X where p(X, X, _, _)":            nil,
		"select X where P(X)":                     nil,
		"select X where p(X, Y), p(Y, Z)":         {row(integer(1)), row(integer(3)), row(word("a"))},
		"select X where p(X, Y), p(Y, 2), q(Z,Z)": {row(integer(1)), row(integer(3)), row(word("a"))},
		"select Z where p(3, Y), q(_, Z)":         rows(7),
		"select where p(_, _), q(_, _)":           {row()},
		"select where p(1, 2)":                    {row()},
		"select where p(2, 1)":                    nil,
		"select where p(_, 3)":                    nil,
		"select where p(1, _), p(_, 2)":           {row()},
		"select X where p(X, _), q(X, _)":         nil,
	} {
		checkSolve(t, db, parsed(t, src), want...)
	}
}

func TestAbsent(t *testing.T) {
	db := []api.Fact{integers("p", 1), integers("p", 2), integers("p", 3), fact("p", word("a")), integers("q", 1, 2), integers("q", 2, 2), integers("q", 4, 3), integers("r", 2), fact("q", integer(3), word("x"))}
	for src, want := range map[string][][]api.Value{
		"select X where p(X), not r(X)":                     {row(integer(1)), row(integer(3)), row(word("a"))},
		"select X where not r(X), p(X)":                     {row(integer(1)), row(integer(3)), row(word("a"))},
		"select X where p(X), not q(X, _)":                  {row(word("a"))},
		"select X where p(X), not q(_, X)":                  {row(integer(1)), row(word("a"))},
		"select X where p(X), not q(X, 2)":                  {row(integer(3)), row(word("a"))},
		"select X where p(X), not q(X, X)":                  {row(integer(1)), row(integer(3)), row(word("a"))},
		"select X where p(X), not q(X)":                     {row(integer(1)), row(integer(2)), row(integer(3)), row(word("a"))},
		"select X where p(X), not q(X, _, _)":               {row(integer(1)), row(integer(2)), row(integer(3)), row(word("a"))},
		"select X where p(X), not none(X)":                  {row(integer(1)), row(integer(2)), row(integer(3)), row(word("a"))},
		"select X, Y where r(X), p(Y), not q(Y, X)":         {row(integer(2), integer(3)), row(integer(2), word("a"))},
		"select X, Y where r(Y), p(X), not q(X, Y)":         {row(integer(3), integer(2)), row(word("a"), integer(2))},
		"select where not q(_, _)":                          nil,
		"select where not q(_, x)":                          nil,
		"select where not q(_, y)":                          {row()},
		"select where not q(4, 3)":                          nil,
		"select where not q(3, 4)":                          {row()},
		"select where not none(_)":                          {row()},
		"select where not q(_)":                             {row()},
		"select X where X in 1 .. 5, not p(X)":              rows(4, 5),
		"select X where X in 0 .. 5, not q(X, _), not p(X)": rows(0, 5),
	} {
		checkSolve(t, db, parsed(t, src), want...)
	}
}

func TestCompare(t *testing.T) {
	values := []api.Value{integer(1), integer(2), integer(3), word("a"), word("b")}
	var db []api.Fact
	for _, v := range values {
		db = append(db, fact("v", v))
	}
	for src, want := range map[string][][]api.Value{
		"X = 2":      rows(2),
		"2 = X":      rows(2),
		"X = a":      {row(word("a"))},
		"X = \"b\"":  {row(word("b"))},
		"X = X":      {row(integer(1)), row(integer(2)), row(integer(3)), row(word("a")), row(word("b"))},
		"X != X":     nil,
		"X != 2":     {row(integer(1)), row(integer(3)), row(word("a")), row(word("b"))},
		"X != a":     {row(integer(1)), row(integer(2)), row(integer(3)), row(word("b"))},
		"X < 2":      rows(1),
		"2 < X":      rows(3),
		"X <= 2":     rows(1, 2),
		"X > 2":      rows(3),
		"X >= 2":     rows(2, 3),
		"X < b":      nil,
		"a < X":      nil,
		"a < b":      nil,
		"X <= X":     rows(1, 2, 3),
		"X >= a":     nil,
		"X = 1 + 1":  rows(2),
		"X = 3 - 1":  rows(2),
		"X = 2 + 0":  rows(2),
		"X != 1 + 1": rows(1, 3),
		"X != a + 1": nil,
		"a != X - 1": nil,
		"a = a + 1":  nil,
		"a != b + 1": nil,
		"a != b":     {row(integer(1)), row(integer(2)), row(integer(3)), row(word("a")), row(word("b"))},
		"a = b":      nil,
		"X < 1 + 2":  rows(1, 2),
		"X <= 1 + 1": rows(1, 2),
		"X > 3 - 1":  rows(3),
		"X >= 3 - 1": rows(2, 3),
		"1 > 2":      nil,
		"X = \"2\"":  nil,
	} {
		checkSolve(t, db, parsed(t, "select X where v(X), "+src), want...)
		checkSolve(t, db, parsed(t, "select X where "+src+", v(X)"), want...)
	}
	checkSolve(t, db, parsed(t, "select X, Y where v(X), v(Y), X = Y + 2"), row(integer(3), integer(1)))
	checkSolve(t, db, parsed(t, "select X, Y where v(X), v(Y), X < Y - 1"), row(integer(1), integer(3)))
}

func TestComparisonDoesNotOverflow(t *testing.T) {
	db := []api.Fact{integers("big", math.MaxInt64), integers("small", math.MinInt64), integers("zero", 0)}
	for src, want := range map[string]bool{
		"big(X), X < X + 1":                                       true,
		"big(X), X <= X + 1":                                      true,
		"big(X), X != X + 1":                                      true,
		"big(X), X > X + 1":                                       false,
		"big(X), X >= X + 1":                                      false,
		"big(X), X = X + 1":                                       false,
		"small(X), X > X - 1":                                     true,
		"small(X), X >= X - 1":                                    true,
		"small(X), X != X - 1":                                    true,
		"small(X), X < X - 1":                                     false,
		"small(X), X <= X - 1":                                    false,
		"small(X), X = X - 1":                                     false,
		"big(X), small(Y), Y < X + 9223372036854775807":           true,
		"big(X), small(Y), Y = X + 1":                             false,
		"big(X), small(Y), X = Y - 1":                             false,
		"big(X), small(Y), X > Y - 9223372036854775807":           true,
		"big(X), small(Y), X = Y + 9223372036854775807":           false,
		"small(Y), -1 = Y + 9223372036854775807":                  true,
		"big(X), zero(Y), X = Y + 9223372036854775807":            true,
		"big(X), zero(Y), Y = X - 9223372036854775807":            true,
		"zero(Y), Y >= 9223372036854775807 + 1":                   false,
		"zero(Y), Y <= -9223372036854775808 - 1":                  false,
		"small(X), X < -9223372036854775807":                      true,
		"small(X), X <= -9223372036854775807 - 1":                 true,
		"small(X), X < -9223372036854775807 - 1":                  false,
		"big(X), small(Y), X > Y":                                 true,
		"big(X), small(Y), X < Y":                                 false,
		"-2 = 9223372036854775807 + 9223372036854775807, zero(_)": false,
	} {
		var rows [][]api.Value
		if want {
			rows = [][]api.Value{row()}
		}
		checkSolve(t, db, parsed(t, "select where "+src), rows...)
	}
}

func TestRange(t *testing.T) {
	db := []api.Fact{integers("p", 1), integers("p", 2), integers("p", 3), fact("p", word("a")), integers("p", 9)}
	for src, want := range map[string][][]api.Value{
		"select X where X in -1 .. 1":                                      rows(-1, 0, 1),
		"select X where X in 5 .. 5":                                       rows(5),
		"select X where p(X), X in 2 .. 3":                                 rows(2, 3),
		"select X where X in 2 .. 3, p(X)":                                 rows(2, 3),
		"select X where X in 1 .. 5, X in 3 .. 9":                          rows(3, 4, 5),
		"select X where X in 1 .. 2, X in 3 .. 4":                          nil,
		"select X where p(X), X in 4 .. 8":                                 nil,
		"select where X in 4 .. 8":                                         {row()},
		"select Y, X where X in 1 .. 2, Y in 3 .. 4":                       {row(integer(3), integer(1)), row(integer(3), integer(2)), row(integer(4), integer(1)), row(integer(4), integer(2))},
		"select X where X in 9223372036854775806 .. 9223372036854775807":   rows(math.MaxInt64-1, math.MaxInt64),
		"select X where X in -9223372036854775808 .. -9223372036854775807": rows(math.MinInt64, math.MinInt64+1),
		"select X where X in -9223372036854775808 .. -9223372036854775808": rows(math.MinInt64),
		"select X where p(X), X in 9 .. 9, X in -1 .. 100":                 rows(9),
		"select X, Y where p(X), Y in 0 .. 2, X = Y + 1":                   {row(integer(1), integer(0)), row(integer(2), integer(1)), row(integer(3), integer(2))},
	} {
		checkSolve(t, db, parsed(t, src), want...)
	}
}

// TestOddFacts: values that are not well formed are values as well, and no numbers of a range.
func TestOddFacts(t *testing.T) {
	for _, v := range oddValues() {
		db := []api.Fact{fact("p", v), fact("p", v, v), fact("p", integer(5), v), integers("q", 5)}
		checkSolve(t, db, parsed(t, "select X where p(X)"), row(v))
		checkSolve(t, db, parsed(t, "select X where p(X, X)"), row(v))
		checkSolve(t, db, parsed(t, "select X where p(_, X), p(X), X = X"), row(v))
		checkSolve(t, db, parsed(t, "select X where p(_, X), not p(X)"))
		checkSolve(t, db, parsed(t, "select X where q(X), not p(X)"), row(integer(5)))
		checkSolve(t, db, parsed(t, "select X where p(X), X in 0 .. 9"))
		checkSolve(t, db, parsed(t, "select X where X in 0 .. 9, p(X)"))
		checkSolve(t, db, parsed(t, "select X where X in 5 .. 5, p(X)"))
		if v.Kind != api.IntValue {
			checkSolve(t, db, parsed(t, "select X where p(X), X <= X"))
			checkSolve(t, db, parsed(t, "select X where p(X), X != 1 + 8"))
		} else {
			checkSolve(t, db, parsed(t, "select X where p(X), X <= X"), row(v))
			checkSolve(t, db, parsed(t, "select X where p(X), X != 1 + 8"), row(v))
		}
		if ok, err := query.Holds(db, parsed(t, "select X where p(X)"), row(v)); !ok || err != api.OK {
			t.Error(v, ok, err)
		}
	}
	db := []api.Fact{integers("p"), {}, integers("", 1), integers("a b", 1), integers("p", make([]int64, 9)...), integers("p", 1)}
	checkSolve(t, db, parsed(t, "select X where p(X)"), rows(1)...)
}

// P5.4

func TestEachSolutionOnce(t *testing.T) {
	db := append(numbered("p", 20), append(numbered("q", 30), numbered("p", 20)...)...)
	checkSolve(t, db, parsed(t, "select where p(X), q(Y)"), row())
	checkSolve(t, db, parsed(t, "select X where p(X), q(Y), X < 3"), rows(1, 2)...)
	checkSolve(t, db, parsed(t, "select Y where p(X), q(Y), Y > 28"), rows(29, 30)...)
}

func TestOrderOfSolutions(t *testing.T) {
	values := append(plainValues(), oddValues()...)
	var db []api.Fact
	var want [][]api.Value
	for i, v := range values {
		for _, w := range values[max(0, i-3):] {
			db = append(db, fact("p", v, w))
			want = append(want, row(v, w))
		}
	}
	slices.SortFunc(want, func(a, b []api.Value) int {
		switch {
		case lessList(a, b):
			return -1
		case lessList(b, a):
			return 1
		}
		return 0
	})
	rand.New(rand.NewSource(2)).Shuffle(len(db), func(i, j int) { db[i], db[j] = db[j], db[i] })
	checkSolve(t, db, parsed(t, "select X, Y where p(X, Y)"), want...)
	checkSolve(t, db, parsed(t, "select Y, X where p(Y, X)"), want...)
}

func TestManyVariables(t *testing.T) {
	db := []api.Fact{integers("p", 1, 2, 3, 4, 5, 6, 7, 8), integers("p", 1, 2, 3, 4, 5, 6, 7, 9)}
	q := parsed(t, "select H, G, F, E, D, C, B, A where p(A, B, C, D, E, F, G, H), p(A, B, C, D, E, F, G, H)")
	checkSolve(t, db, q, integers("", 8, 7, 6, 5, 4, 3, 2, 1).Args, integers("", 9, 7, 6, 5, 4, 3, 2, 1).Args)
}

func TestSearchSpace(t *testing.T) {
	db := slices.Concat(numbered("a", 100), numbered("a", 100), numbered("b", 100), numbered("k", 1000), numbered("k", 1000), numbered("two", 2))
	db = append(db, integers("a", 1, 1), integers("k", 1, 1))
	repeated := func(goal string, n int) string { return strings.TrimSuffix(strings.Repeat(goal+", ", n), ", ") }
	for src, want := range map[string]api.Errno{
		"k(X), k(Y), X = 7, Y = X":                     api.OK,
		"k(X), k(Y), two(X)":                           api.ErrLimit,
		"k(X), k(Y), none(X)":                          api.OK,
		"none(X), k(X), k(Y)":                          api.OK,
		"none(X), k(X), k(Y), two(X)":                  api.ErrLimit,
		"k(X), k(Y), k(_, _), a(_, _)":                 api.OK,
		"k(1), k(2)":                                   api.OK,
		"k(1), k(2), two(1)":                           api.ErrLimit,
		"k(_), k(_), two(_)":                           api.ErrLimit,
		"k(X), X in 1 .. 1000":                         api.OK,
		"k(X), X in 1 .. 1001":                         api.ErrLimit,
		"X in 0 .. 1000, k(X)":                         api.ErrLimit,
		"X in 1 .. 1000, Y in 1 .. 1000, X = 1, Y = 1": api.OK,
		"X in 1 .. 1000, Y in 0 .. 1000":               api.ErrLimit,
		"X in 1 .. 1000000, X = 5":                     api.OK,
		"X in 0 .. 1000000, X = 5":                     api.ErrLimit,
		"X in 1 .. 1000000, none(X)":                   api.OK,
		"X in 1 .. 1000000, X in 1 .. 1":               api.OK,
		"X in 1 .. 1000000, X in 1 .. 2":               api.ErrLimit,
		"k(X), k(Y), not k(X), not a(X), not two(Y)":   api.OK,
		"a(X), b(X), a(X)":                             api.OK,
		"a(X), b(X), a(X), two(X)":                     api.ErrLimit,
		repeated("k(X)", 16):                           api.ErrLimit,
		repeated("two(X)", 16):                         api.OK,
		repeated("X in 0 .. 1000000", 16):              api.ErrLimit,
		repeated("not k(1)", 16):                       api.OK,
	} {
		q := parsed(t, "select where "+src)
		if want != api.OK {
			checkSolveError(t, db, q, want)
		} else if _, err := query.Solve(db, q); err != api.OK {
			t.Error(src, err)
		}
	}
	checkSolveError(t, nil, parsed(t, "select X where X in 0 .. 1000000"), api.ErrLimit)
	checkSolveError(t, nil, parsed(t, "select X where X in 0 .. 1000001"), api.ErrRange)
	got, err := query.Solve(nil, parsed(t, "select X where X in 1 .. 1000000"))
	if err != api.OK || len(got) != 1000000 || !slices.Equal(got[999999], row(integer(1000000))) {
		t.Error(len(got), err)
	}
}

// TestManyAbsentFacts has a search space of the greatest size, each assignment of which is checked against many facts.
func TestManyAbsentFacts(t *testing.T) {
	var db []api.Fact
	for i := range int64(200000) {
		db = append(db, integers("p", i, -i), integers("q", i))
	}
	got, err := query.Solve(db, parsed(t, "select X where X in 1 .. 1000000, not p(X, _), not q(X)"))
	if err != api.OK || len(got) != 800001 || !slices.Equal(got[0], row(integer(200000))) {
		t.Error(len(got), err)
	}
}

// TestGoalsInAnUnluckyOrder would take long if each goal were tried for each of the numbers.
func TestGoalsInAnUnluckyOrder(t *testing.T) {
	db := numbered("p", 1)
	src := "select X where X in 1 .. 1000000" + strings.Repeat(", p(X)", 15)
	checkSolve(t, db, parsed(t, src), rows(1)...)
}

func TestMinimum(t *testing.T) {
	db := []api.Fact{integers("p", 1, 5), integers("p", 2, 3), integers("p", 4, 3), fact("p", integer(0), word("a")), fact("p", word("b"), integer(4)), integers("p", -7, 9), integers("q", math.MaxInt64), integers("s", math.MinInt64), integers("s", 0), fact("w", word("a"))}
	for _, test := range []struct {
		src, by string
		want    [][]api.Value
	}{
		{"select X, Y where p(X, Y)", "Y", [][]api.Value{row(integer(2), integer(3)), row(integer(4), integer(3))}},
		{"select X, Y where p(X, Y)", "X", [][]api.Value{row(integer(-7), integer(9))}},
		{"select Y, X where p(X, Y)", "X", [][]api.Value{row(integer(9), integer(-7))}},
		{"select Y, X where p(X, Y), X > -5", "X", [][]api.Value{row(word("a"), integer(0))}},
		{"select Y where p(0, Y)", "Y", nil},
		{"select X where q(X)", "X", rows(math.MaxInt64)},
		{"select X where s(X)", "X", rows(math.MinInt64)},
		{"select X where w(X)", "X", nil},
		{"select X where none(X)", "X", nil},
		{"select X where X in 5 .. 9", "X", rows(5)},
		{"select X, Y where q(X), w(Y)", "X", [][]api.Value{row(integer(math.MaxInt64), word("a"))}},
		{"select X, Y where q(X), w(Y)", "Y", nil},
	} {
		if got, err := query.Minimum(db, parsed(t, test.src), test.by); err != api.OK || !sameLists(got, test.want) {
			t.Errorf("%s by %s: %v, error %d, want %v", test.src, test.by, got, err, test.want)
		}
	}
	for _, test := range [][2]string{{"select X where p(X, Y)", "Y"}, {"select X where p(X, Y)", ""}, {"select X where p(X, Y)", "x"}, {"select where p(X, Y)", "X"}, {"select where p(X, Y)", ""}, {"select X where none(X)", "Y"}, {"select X where p(X, _)", "_"}} {
		if got, err := query.Minimum(db, parsed(t, test[0]), test[1]); err != api.ErrUnknown || len(got) != 0 {
			t.Error(test, got, err)
		}
	}
}

func TestMinimumOfOddFacts(t *testing.T) {
	odd := api.Value{Kind: api.IntValue, Int: 2, Word: "a"}
	db := []api.Fact{fact("p", api.Value{Kind: 0, Int: -5}), fact("p", odd), integers("p", 3), fact("p", api.Value{Kind: 3, Int: 1})}
	q := parsed(t, "select X where p(X)")
	if got, err := query.Minimum(db, q, "X"); err != api.OK || !sameLists(got, [][]api.Value{row(odd)}) {
		t.Error(got, err)
	}
}

func TestHolds(t *testing.T) {
	db := []api.Fact{integers("p", 2, 3), integers("p", 1, 5), fact("p", word("a"), integer(1))}
	q := parsed(t, "select X, Y where p(X, Y)")
	for _, values := range [][]api.Value{row(integer(1), integer(5)), row(integer(2), integer(3)), row(word("a"), integer(1))} {
		if ok, err := query.Holds(db, q, values); !ok || err != api.OK {
			t.Error(values, ok, err)
		}
	}
	for _, values := range [][]api.Value{row(integer(5), integer(1)), row(integer(1), integer(3)), row(integer(2), integer(5)), row(word("a"), word("a")), row(api.Value{}, api.Value{}), row(api.Value{Kind: api.IntValue, Int: 1, Word: "x"}, integer(5)), row(integer(0), integer(9)), row(word("b"), integer(1))} {
		if ok, err := query.Holds(db, q, values); ok || err != api.OK {
			t.Error(values, ok, err)
		}
	}
	for _, values := range [][]api.Value{nil, {}, row(integer(1)), row(integer(1), integer(5), integer(5)), row(integer(1), integer(5), api.Value{})} {
		if ok, err := query.Holds(db, q, values); ok || err != api.ErrRange {
			t.Error(values, ok, err)
		}
	}
	for src, want := range map[string]bool{"select where p(1, 5)": true, "select where p(5, 1)": false, "select where p(1, _), not p(2, _)": false, "select where p(1, _), not p(3, _)": true} {
		if ok, err := query.Holds(db, parsed(t, src), nil); ok != want || err != api.OK {
			t.Error(src, ok, err)
		}
		if ok, err := query.Holds(db, parsed(t, src), row(integer(1))); ok || err != api.ErrRange {
			t.Error(src, ok, err)
		}
	}
}

// R4 and R5

func TestArgumentsAreNotChanged(t *testing.T) {
	r := rand.New(rand.NewSource(3))
	values := plainValues()[:8]
	for range 500 {
		db, q := randomFacts(r, 12, values), randomQuery(r, values)
		oldDb, oldQ := cloneFacts(db), cloneQuery(q)
		list, _ := query.Solve(db, q)
		query.Format(q)
		for _, name := range q.Select {
			query.Minimum(db, q, name)
		}
		for _, s := range list {
			old := slices.Clone(s)
			query.Holds(db, q, s)
			if !slices.Equal(s, old) {
				t.Fatal("the values are changed")
			}
		}
		if !sameFacts(db, oldDb) || !sameQuery(q, oldQ) {
			t.Fatal("an argument is changed")
		}
	}
}

// checkOwnMemory checks that no two lists share memory. It spoils the lists.
func checkOwnMemory(t *testing.T, lists [][]api.Value) {
	t.Helper()
	for i, list := range lists {
		values := list[:cap(list)]
		for j := range values {
			values[j] = word("overwritten")
		}
		for _, other := range lists[i+1:] {
			if slices.Contains(other, word("overwritten")) {
				t.Error("shared memory")
			}
		}
	}
}

func TestSolutionsAreNewMemory(t *testing.T) {
	db := []api.Fact{integers("p", 1, 5), integers("p", 2, 5), integers("p", 3, 5)}
	before := cloneFacts(db)
	q := parsed(t, "select X, Y where p(X, Y)")
	solutions, _ := query.Solve(db, q)
	checkOwnMemory(t, solutions)
	least, _ := query.Minimum(db, q, "Y")
	if len(least) != 3 {
		t.Error(least)
	}
	checkOwnMemory(t, least)
	if !sameFacts(db, before) {
		t.Error("a solution shares memory with a fact")
	}
	checkSolve(t, db, q, before[0].Args, before[1].Args, before[2].Args)
}

func TestConcurrentCalls(t *testing.T) {
	db := append(numbered("p", 40), numbered("q", 30)...)
	src := "select X, Y where p(X), q(Y), X < Y - 3, not q(Y, X)"
	q := parsed(t, src)
	want, _ := query.Solve(db, q)
	text := query.Format(q)
	var group sync.WaitGroup
	for range 8 {
		group.Go(func() {
			got, err := query.Solve(db, q)
			again, _, _ := query.Parse(src)
			if err != api.OK || !sameLists(got, want) || query.Format(q) != text || !sameQuery(again, q) {
				t.Error("a call beside others has another result")
			}
		})
	}
	group.Wait()
}
