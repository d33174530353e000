package facts_test

import (
	"math"
	"math/rand"
	"slices"
	"strings"
	"testing"

	"multikernel/api"
	"multikernel/facts"
)

func integer(n int64) api.Value { return api.Value{Kind: api.IntValue, Int: n} }

func word(text string) api.Value { return api.Value{Kind: api.WordValue, Word: text} }

func fact(relation string, args ...api.Value) api.Fact {
	return api.Fact{Relation: relation, Args: args}
}

// integers returns the fact of a relation with these numbers.
func integers(relation string, numbers ...int64) api.Fact {
	f := api.Fact{Relation: relation}
	for _, n := range numbers {
		f.Args = append(f.Args, integer(n))
	}
	return f
}

// equal compares without facts.Compare, so that a fault in Compare hides no other one.
func equal(a, b api.Fact) bool { return a.Relation == b.Relation && slices.Equal(a.Args, b.Args) }

func same(a, b []api.Fact) bool { return slices.EqualFunc(a, b, equal) }

func clone(db []api.Fact) []api.Fact {
	db = slices.Clone(db)
	for i, f := range db {
		db[i].Args = slices.Clone(f.Args)
	}
	return db
}

// lessValue and lessFact say P4.1 once more, sentence by sentence.
func lessValue(a, b api.Value) bool {
	if a.Kind != b.Kind {
		return a.Kind < b.Kind
	}
	if a.Int != b.Int {
		return a.Int < b.Int
	}
	return a.Word < b.Word
}

func lessFact(a, b api.Fact) bool {
	if a.Relation != b.Relation {
		return a.Relation < b.Relation
	}
	if len(a.Args) != len(b.Args) {
		return len(a.Args) < len(b.Args)
	}
	for i := range a.Args {
		if a.Args[i] != b.Args[i] {
			return lessValue(a.Args[i], b.Args[i])
		}
	}
	return false
}

// setOf returns the set of db by insertion of one fact after the other.
func setOf(db []api.Fact) []api.Fact {
	var set []api.Fact
	for _, f := range db {
		at := 0
		for at < len(set) && lessFact(set[at], f) {
			at++
		}
		if at == len(set) || !equal(set[at], f) {
			set = slices.Insert(set, at, f)
		}
	}
	return set
}

func checkSet(t *testing.T, got, want []api.Fact) {
	t.Helper()
	if !same(got, want) {
		t.Errorf("%v, want %v", got, want)
	}
}

// checkOwnMemory checks that no list of result shares memory with args or with another list of result. It spoils result.
func checkOwnMemory(t *testing.T, result []api.Fact, args ...[]api.Fact) {
	t.Helper()
	before := clone(slices.Concat(append(args, result)...))
	end := len(before) - len(result)
	for i := range result {
		values := result[i].Args[:cap(result[i].Args)]
		for j := range values {
			values[j] = word("overwritten")
		}
		now := slices.Concat(append(args, result)...)
		if !same(now[:end+i], before[:end+i]) || !same(now[end+i+1:], before[end+i+1:]) {
			t.Error("shared memory:", before[end+i])
		}
		copy(values, before[end+i].Args)
	}
	clear(result[:cap(result)])
	if !same(slices.Concat(args...), before[:end]) {
		t.Error("the list itself is shared")
	}
}

// oddValues are values that are not well formed.
func oddValues() []api.Value {
	return []api.Value{
		{},
		{Kind: -1},
		{Kind: 3, Int: 1},
		{Kind: 3, Word: "a"},
		{Kind: math.MinInt},
		{Kind: math.MaxInt, Int: math.MaxInt64, Word: "a"},
		{Kind: api.IntValue, Word: "a"},
		{Kind: api.IntValue, Int: 5, Word: "5"},
		{Kind: api.IntValue, Int: 5, Word: " "},
		{Kind: api.WordValue},
		{Kind: api.WordValue, Int: 1},
		{Kind: api.WordValue, Int: 1, Word: "a"},
		{Kind: api.WordValue, Int: -1, Word: "a"},
		{Kind: api.WordValue, Int: math.MinInt64, Word: "a"},
		word(strings.Repeat("a", api.MaxNameLen+1)),
		word(strings.Repeat(" ", api.MaxNameLen+1)),
		word(strings.Repeat("a", 1000)),
		word("a\n"),
		word("\x00"),
		word("a\x1f"),
		word("\x7fa"),
		word("a\x80"),
		word("\xff"),
		word("\u00e4"),
		word(`a"`),
		word(`"`),
		word(`\`),
		word("\t"),
	}
}

// plainValues are well-formed values.
func plainValues() []api.Value {
	return []api.Value{
		integer(0), integer(1), integer(-1), integer(10), integer(math.MaxInt64), integer(math.MinInt64), integer(math.MinInt64 + 1),
		word("a"), word("_"), word("A"), word("a1"), word("machine"), word(strings.Repeat("z", api.MaxNameLen)),
		word(" "), word("0"), word("-5"), word("a b"), word("#"), word("a."), word("~"), word("1a"), word("p(1)."), word(strings.Repeat("!", api.MaxNameLen)),
	}
}

// randomFact returns one of few facts, so that several calls often return equal ones.
func randomFact(r *rand.Rand, values []api.Value) api.Fact {
	f := api.Fact{Relation: []string{"a", "b", "ab", "B", "_"}[r.Intn(5)]}
	for range 1 + r.Intn(3) {
		f.Args = append(f.Args, values[r.Intn(len(values))])
	}
	return f
}

func randomFacts(r *rand.Rand, n int, values []api.Value) []api.Fact {
	var db []api.Fact
	for range n {
		db = append(db, randomFact(r, values))
	}
	return db
}

func checkParse(t *testing.T, src string, want []api.Fact) {
	t.Helper()
	got, pos, err := facts.Parse(src)
	if err != api.OK || pos != (api.Pos{}) || !same(got, want) {
		t.Errorf("%.200q: %v, error %d at %v, want %v", src, got, err, pos, want)
	}
}

// checkParseError checks that Parse returns nothing but an error and its position.
func checkParseError(t *testing.T, src string, line, col int, want api.Errno) {
	t.Helper()
	got, pos, err := facts.Parse(src)
	if len(got) != 0 || err != want || pos != (api.Pos{Line: line, Col: col}) {
		t.Errorf("%.200q: %v, error %d at %v, want %d at %d:%d", src, got, err, pos, want, line, col)
	}
}
