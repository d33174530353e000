package facts_test

import (
	"math"
	"math/rand"
	"slices"
	"strings"
	"testing"

	"multikernel/api"
	"multikernel/facts"
)

// P4.1

func TestCompareValuesInOrder(t *testing.T) {
	ascending := []api.Value{
		{Kind: math.MinInt, Int: 9, Word: "z"},
		{Kind: -1},
		{},
		{Word: "a"},
		{Int: 1},
		integer(math.MinInt64),
		{Kind: api.IntValue, Int: math.MinInt64, Word: "a"},
		integer(-10),
		integer(-9),
		integer(0),
		{Kind: api.IntValue, Word: "\x00"},
		{Kind: api.IntValue, Word: "z"},
		integer(9),
		integer(10),
		integer(math.MaxInt64),
		{Kind: api.WordValue, Int: -1, Word: "z"},
		word(""),
		word("\x00"),
		word("9"),
		word("B"),
		word("_"),
		word("a"),
		word("a\x00"),
		word("aB"),
		word("aa"),
		word("b"),
		word("\u00e4"),
		word("\xff"),
		{Kind: api.WordValue, Int: 1},
		{Kind: api.WordValue, Int: 1, Word: "a"},
		{Kind: 3},
		{Kind: math.MaxInt},
	}
	for i, a := range ascending {
		for j, b := range ascending {
			want := sign(i - j)
			if got := facts.Compare(fact("p", a), fact("p", b)); got != want {
				t.Error(a, b, got)
			}
			if got := facts.Compare(fact("p", integer(1), a, integer(2)), fact("p", integer(1), b, integer(2))); got != want {
				t.Error("second argument", a, b, got)
			}
		}
	}
}

func sign(n int) int { return min(1, max(-1, n)) }

func TestCompareFactsInOrder(t *testing.T) {
	ascending := []api.Fact{
		fact(""),
		integers("", 5),
		integers("B", 9),
		integers("_", 1),
		fact("a"),
		integers("a", 1),
		integers("a", 9),
		fact("a", word("a")),
		integers("a", 0, 0),
		integers("a", 0, 9),
		integers("a", 1, 0),
		integers("a", 1, 0, 0),
		integers("a", 1, 0, 1),
		integers("a", 1, 1, 0),
		integers("a", 0, 0, 0, 0),
		integers("a", 0, 0, 0, 0, 0, 0, 0, 0, 0),
		integers("a", 0, 0, 0, 0, 0, 0, 0, 0, 1),
		fact("a\x00"),
		fact("aB"),
		integers("aa", -1),
		fact("b"),
		fact("\xff"),
	}
	for i, a := range ascending {
		for j, b := range ascending {
			if got := facts.Compare(a, b); got != sign(i-j) {
				t.Error(a, b, got)
			}
		}
	}
}

func TestCompareNilAndEmptyLists(t *testing.T) {
	if got := facts.Compare(api.Fact{Relation: "a"}, api.Fact{Relation: "a", Args: []api.Value{}}); got != 0 {
		t.Error(got)
	}
}

// TestCompareIsTotal also covers P4.5.
func TestCompareIsTotal(t *testing.T) {
	r := rand.New(rand.NewSource(1))
	list := randomFacts(r, 70, append(plainValues()[:8], oddValues()[:8]...))
	for _, a := range list {
		for _, b := range list {
			ab, ba := facts.Compare(a, b), facts.Compare(b, a)
			if ab != -ba || (ab == 0) != equal(a, b) || (ab < 0) != lessFact(a, b) || ab < -1 || ab > 1 {
				t.Fatal(a, b, ab, ba)
			}
			for _, c := range list {
				if bc := facts.Compare(b, c); ab <= 0 && bc <= 0 && facts.Compare(a, c) > 0 {
					t.Fatal("not transitive", a, b, c)
				}
			}
		}
	}
}

func checkInsertName(t *testing.T, f api.Fact) {
	t.Helper()
	for _, db := range [][]api.Fact{nil, {integers("a", 1)}, {f}} {
		if got, err := facts.Insert(db, f); err != api.ErrName || len(got) != 0 {
			t.Errorf("%v into %v: %v, error %d", f, db, got, err)
		}
	}
}

func checkInsertOK(t *testing.T, f api.Fact) {
	t.Helper()
	if got, err := facts.Insert(nil, f); err != api.OK || !same(got, []api.Fact{f}) {
		t.Errorf("%v: %v, error %d", f, got, err)
	}
}

func TestWellFormedValues(t *testing.T) {
	for _, v := range plainValues() {
		checkInsertOK(t, fact("p", v))
		checkInsertOK(t, fact("p", integer(1), v))
	}
	for _, v := range oddValues() {
		checkInsertName(t, fact("p", v))
		checkInsertName(t, fact("p", integer(1), v))
		checkInsertName(t, fact("p", v, integer(1)))
	}
}

func TestWellFormedWordBytes(t *testing.T) {
	for c := range 256 {
		v := word("a" + string([]byte{byte(c)}))
		if c >= 32 && c <= 126 && c != '"' && c != '\\' {
			checkInsertOK(t, fact("p", v))
		} else {
			checkInsertName(t, fact("p", v))
		}
	}
}

func TestWellFormedRelations(t *testing.T) {
	for _, name := range []string{"p", "_", "P9", "select", "core", strings.Repeat("a", api.MaxNameLen)} {
		checkInsertOK(t, integers(name, 1))
	}
	for _, name := range []string{"", "1", "1a", "a b", "a-b", " a", "a\n", "\xff", `"a"`, strings.Repeat("a", api.MaxNameLen+1)} {
		checkInsertName(t, integers(name, 1))
	}
}

func TestWellFormedArity(t *testing.T) {
	for n := range api.MaxArity + 3 {
		f := integers("p", make([]int64, n)...)
		if 1 <= n && n <= api.MaxArity {
			checkInsertOK(t, f)
		} else {
			checkInsertName(t, f)
		}
	}
	checkInsertName(t, api.Fact{})
	checkInsertName(t, api.Fact{Relation: "p", Args: []api.Value{}})
}

// P4.2

func TestInsertSmall(t *testing.T) {
	a, b, c := integers("a", 1), integers("a", 2), integers("b", 1)
	for _, test := range []struct{ db, want []api.Fact }{
		{nil, []api.Fact{b}},
		{[]api.Fact{}, []api.Fact{b}},
		{[]api.Fact{b}, []api.Fact{b}},
		{[]api.Fact{a}, []api.Fact{a, b}},
		{[]api.Fact{c}, []api.Fact{b, c}},
		{[]api.Fact{c, a}, []api.Fact{a, b, c}},
		{[]api.Fact{c, b, a, a, b, c}, []api.Fact{a, b, c}},
	} {
		got, err := facts.Insert(test.db, b)
		if err != api.OK {
			t.Error(test.db, err)
		}
		checkSet(t, got, test.want)
	}
}

func TestInsertIntoListWithOddFacts(t *testing.T) {
	odd := []api.Fact{fact("z", api.Value{Kind: 9}), {}, fact("p"), fact("p", word("")), {}, fact("p", word(""))}
	got, err := facts.Insert(odd, integers("p", 1))
	if err != api.OK {
		t.Error(err)
	}
	checkSet(t, got, []api.Fact{{}, fact("p"), integers("p", 1), fact("p", word("")), fact("z", api.Value{Kind: 9})})
}

func manyFacts(n int) []api.Fact {
	var db []api.Fact
	for i := range n {
		db = append(db, integers("a", int64(i*7919%n)))
	}
	return db
}

func TestInsertLimit(t *testing.T) {
	full := manyFacts(api.MaxFacts)
	if got, err := facts.Insert(full[1:], full[0]); err != api.OK || len(got) != api.MaxFacts {
		t.Error(len(got), err)
	}
	if got, err := facts.Insert(append(clone(full), full...), full[9]); err != api.OK || len(got) != api.MaxFacts {
		t.Error("repetitions are counted", len(got), err)
	}
	if got, err := facts.Insert(full, integers("b", 1)); err != api.ErrLimit || len(got) != 0 {
		t.Error(len(got), err)
	}
	over := append(clone(full), integers("b", 1))
	if got, err := facts.Insert(over, over[0]); err != api.ErrLimit || len(got) != 0 {
		t.Error("a set that is too large already", len(got), err)
	}
	if got, err := facts.Insert(over, fact("p")); err != api.ErrName || len(got) != 0 {
		t.Error("ErrName comes first", len(got), err)
	}
}

func TestRemoveSmall(t *testing.T) {
	a, b, c := integers("a", 1), integers("a", 2), integers("b", 1)
	for _, test := range []struct {
		db, want []api.Fact
		was      bool
	}{
		{nil, nil, false},
		{[]api.Fact{b}, nil, true},
		{[]api.Fact{b, b, b}, nil, true},
		{[]api.Fact{c, a, c}, []api.Fact{a, c}, false},
		{[]api.Fact{c, b, a, b, c}, []api.Fact{a, c}, true},
	} {
		got, was := facts.Remove(test.db, b)
		if was != test.was {
			t.Error(test.db, was)
		}
		checkSet(t, got, test.want)
	}
}

func TestRemoveOddFacts(t *testing.T) {
	db := []api.Fact{{}, fact("p"), integers("p", 1), {}}
	got, was := facts.Remove(db, api.Fact{Args: []api.Value{}})
	if !was {
		t.Error("not found")
	}
	checkSet(t, got, []api.Fact{fact("p"), integers("p", 1)})
}

func TestRemoveHasNoLimit(t *testing.T) {
	db := manyFacts(api.MaxFacts + 5)
	if got, was := facts.Remove(db, db[3]); !was || len(got) != api.MaxFacts+4 {
		t.Error(len(got), was)
	}
	if got, was := facts.Remove(db, integers("b", 1)); was || len(got) != api.MaxFacts+5 {
		t.Error(len(got), was)
	}
}

func TestContainsSmall(t *testing.T) {
	db := []api.Fact{integers("b", 1), integers("a", 1, 2), {}, integers("a", 1)}
	for _, f := range append(clone(db), api.Fact{Args: []api.Value{}}) {
		if !facts.Contains(db, f) {
			t.Error(f, "is missing")
		}
	}
	for _, f := range []api.Fact{integers("a", 2), integers("a"), integers("a", 1, 2, 3), integers("c", 1), fact("b", word("1")), integers("", 1), fact("b", api.Value{Kind: api.IntValue, Int: 1, Word: "x"})} {
		if facts.Contains(db, f) {
			t.Error(f, "is found")
		}
	}
	if facts.Contains(nil, api.Fact{}) {
		t.Error("the empty set contains nothing")
	}
}

func TestSelectSmall(t *testing.T) {
	db := []api.Fact{integers("b", 1), integers("a", 3), fact("a"), integers("a", 1, 2), {}, integers("a", 1), integers("a", 3), fact("a", word("")), integers("aa", 1)}
	for _, test := range []struct {
		relation string
		arity    int
		want     []api.Fact
	}{
		{"a", 1, []api.Fact{integers("a", 1), integers("a", 3), fact("a", word(""))}},
		{"a", 2, []api.Fact{integers("a", 1, 2)}},
		{"a", 0, []api.Fact{fact("a")}},
		{"a", 3, nil},
		{"a", -1, nil},
		{"a", math.MinInt, nil},
		{"a", math.MaxInt, nil},
		{"", 0, []api.Fact{{}}},
		{"", 1, nil},
		{"c", 1, nil},
		{"A", 1, nil},
	} {
		checkSet(t, facts.Select(db, test.relation, test.arity), test.want)
	}
	if got := facts.Select(nil, "a", 1); len(got) != 0 {
		t.Error(got)
	}
}

func TestSelectHasNoLimit(t *testing.T) {
	db := manyFacts(api.MaxFacts + 5)
	if got := facts.Select(db, "a", 1); len(got) != len(db) || !slices.IsSortedFunc(got, facts.Compare) {
		t.Error(len(got))
	}
}

// TestSetsAgainstInsertion compares with sets that are built in another way.
func TestSetsAgainstInsertion(t *testing.T) {
	r := rand.New(rand.NewSource(2))
	for range 3000 {
		values := append(plainValues()[:1+r.Intn(9)], oddValues()[:r.Intn(9)]...)
		db, f := randomFacts(r, r.Intn(40), values), randomFact(r, values[:1])
		before := clone(db)
		inserted, err := facts.Insert(db, f)
		if err != api.OK {
			t.Fatal(err)
		}
		checkSet(t, inserted, setOf(append(clone(db), f)))
		removed, was := facts.Remove(db, f)
		without := slices.DeleteFunc(clone(db), func(g api.Fact) bool { return equal(f, g) })
		checkSet(t, removed, setOf(without))
		if in := len(without) < len(db); was != in || facts.Contains(db, f) != in {
			t.Fatal(db, f, was)
		}
		chosen := slices.DeleteFunc(clone(db), func(g api.Fact) bool { return g.Relation != f.Relation || len(g.Args) != len(f.Args) })
		checkSet(t, facts.Select(db, f.Relation, len(f.Args)), setOf(chosen))
		if !same(db, before) {
			t.Fatal("db is changed")
		}
	}
}

// P4.5

func TestLawsOfSets(t *testing.T) {
	r := rand.New(rand.NewSource(3))
	insert := func(db []api.Fact, f api.Fact) []api.Fact {
		set, err := facts.Insert(db, f)
		if err != api.OK {
			t.Fatal(f, err)
		}
		return set
	}
	remove := func(db []api.Fact, f api.Fact) []api.Fact {
		set, _ := facts.Remove(db, f)
		return set
	}
	for range 1000 {
		db := randomFacts(r, r.Intn(20), plainValues()[:4])
		f, g := randomFact(r, plainValues()[:4]), randomFact(r, plainValues()[:4])
		checkSet(t, insert(insert(db, f), f), insert(db, f))
		checkSet(t, insert(insert(db, f), g), insert(insert(db, g), f))
		checkSet(t, remove(remove(db, f), g), remove(remove(db, g), f))
		checkSet(t, remove(insert(db, f), f), remove(db, f))
		checkSet(t, insert(remove(db, f), f), insert(db, f))
		if !facts.Contains(insert(db, f), f) || facts.Contains(remove(db, f), f) {
			t.Fatal(db, f)
		}
		if facts.Contains(insert(db, f), g) != (equal(f, g) || facts.Contains(db, g)) {
			t.Fatal(db, f, g)
		}
	}
}

// R4

func TestSetsHaveTheirOwnMemory(t *testing.T) {
	sample := func() []api.Fact {
		args := make([]api.Value, 2, 16)
		args[0], args[1] = integer(1), word("x")
		one := api.Fact{Relation: "p", Args: args}
		return []api.Fact{one, one, {Relation: "q", Args: args}, {Relation: "p", Args: args[:1]}}
	}
	db, f := sample(), sample()[2]
	inserted, _ := facts.Insert(db, f)
	checkOwnMemory(t, inserted, db, []api.Fact{f})
	f.Relation = "r"
	inserted, _ = facts.Insert(db, f)
	checkOwnMemory(t, inserted, db, []api.Fact{f})
	removed, _ := facts.Remove(db, f)
	checkOwnMemory(t, removed, db, []api.Fact{f})
	removed, _ = facts.Remove(db, db[2])
	checkOwnMemory(t, removed, db)
	checkOwnMemory(t, facts.Select(db, "p", 2), db)
	checkSet(t, db, sample())
}

// TestResultsAreNotKept checks that changing a result or an argument later has no effect on other results.
func TestResultsAreNotKept(t *testing.T) {
	db := []api.Fact{integers("b", 1), integers("a", 1)}
	first, _ := facts.Insert(db, integers("c", 1))
	second, _ := facts.Insert(db, integers("c", 1))
	db[0].Args[0] = integer(7)
	first[0].Args[0] = integer(9)
	checkSet(t, second, []api.Fact{integers("a", 1), integers("b", 1), integers("c", 1)})
}
