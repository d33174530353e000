package query

import (
	"math"
	"slices"

	"multikernel/api"
	"multikernel/facts"
)

// Solve returns the solutions of q over db in ascending order, each once.
func Solve(db []api.Fact, q api.Query) ([][]api.Value, api.Errno) {
	if err := Validate(q); err != api.OK {
		return nil, err
	}
	steps := stepsOf(db, q.Goals)
	if exceedsWork(steps) {
		return nil, api.ErrLimit
	}
	arrange(steps)
	list := search(steps, q.Select)
	slices.SortFunc(list, compareLists)
	same := func(a, b []api.Value) bool { return compareLists(a, b) == 0 }
	return slices.CompactFunc(list, same), api.OK
}

// Minimum returns the solutions in which the variable has its least number.
func Minimum(db []api.Fact, q api.Query, by string) ([][]api.Value, api.Errno) {
	list, err := Solve(db, q)
	if err != api.OK {
		return nil, err
	}
	at := slices.Index(q.Select, by)
	if at < 0 {
		return nil, api.ErrUnknown
	}
	list = slices.DeleteFunc(list, func(s []api.Value) bool { return s[at].Kind != api.IntValue })
	least := int64(math.MaxInt64)
	for _, s := range list {
		least = min(least, s[at].Int)
	}
	return slices.DeleteFunc(list, func(s []api.Value) bool { return s[at].Int > least }), api.OK
}

// Holds reports whether values is a solution of q over db.
func Holds(db []api.Fact, q api.Query, values []api.Value) (bool, api.Errno) {
	list, err := Solve(db, q)
	switch {
	case err != api.OK:
		return false, err
	case len(values) != len(q.Select):
		return false, api.ErrRange
	}
	_, found := slices.BinarySearchFunc(list, values, compareLists)
	return found, api.OK
}

// compareLists compares two lists of the same length.
func compareLists(a, b []api.Value) int {
	return facts.Compare(api.Fact{Args: a}, api.Fact{Args: b})
}

func exceedsWork(steps []step) bool {
	work := int64(1)
	for _, s := range steps {
		if isGenerator(s.goal) {
			work *= max(1, s.size())
		}
		// A check after each factor keeps the product from overflowing.
		if work > api.MaxWork {
			return true
		}
	}
	return false
}

// search returns the values of the names for each assignment under which all goals hold.
func search(steps []step, names []string) [][]api.Value {
	bindings := map[string]api.Value{}
	var list [][]api.Value
	var from func(i int)
	from = func(i int) {
		if i == len(steps) {
			list = append(list, valuesOf(names, bindings))
			return
		}
		steps[i].each(bindings, func() { from(i + 1) })
	}
	from(0)
	return list
}

func valuesOf(names []string, bindings map[string]api.Value) []api.Value {
	values := make([]api.Value, len(names))
	for i, name := range names {
		values[i] = bindings[name]
	}
	return values
}
