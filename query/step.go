package query

import (
	"cmp"
	"math"
	"slices"

	"multikernel/api"
	"multikernel/facts"
)

// step is a goal of the search. The facts of a GoalMatch are those with its relation and number of arguments; the facts
// of a GoalAbsent are what is left of them at the positions that are not `_`, in ascending order, without a relation.
type step struct {
	goal  api.Goal
	facts []api.Fact
}

func stepsOf(db []api.Fact, goals []api.Goal) []step {
	var steps []step
	for _, g := range goals {
		s := step{goal: g}
		if isTuple(g) {
			s.facts = facts.Select(db, g.Relation, len(g.Args))
		}
		if g.Kind == api.GoalAbsent {
			s.facts = narrowed(g.Args, s.facts)
		}
		steps = append(steps, s)
	}
	return steps
}

// narrowed returns the facts at the positions that are not `_`.
func narrowed(args []api.Operand, list []api.Fact) []api.Fact {
	var rest []api.Fact
	for _, f := range list {
		rest = append(rest, known(args, func(i int) api.Value { return f.Args[i] }))
	}
	slices.SortFunc(rest, facts.Compare)
	return rest
}

// known returns the values at the positions that are not `_`.
func known(args []api.Operand, value func(i int) api.Value) api.Fact {
	var f api.Fact
	for i, arg := range args {
		if arg.Var != anyValue {
			f.Args = append(f.Args, value(i))
		}
	}
	return f
}

// arrange puts the steps into an order that keeps the search short: a goal that only rules out assignments comes as
// soon as its variables have values, and of the goals that give values the one with the fewest comes next.
func arrange(steps []step) {
	bound := map[string]bool{}
	for i := range steps {
		rest := steps[i:]
		next := 0
		for k, s := range rest {
			if s.cost(bound) < rest[next].cost(bound) {
				next = k
			}
		}
		rest[0], rest[next] = rest[next], rest[0]
		addNamed(bound, rest[0].goal)
	}
}

// cost returns the number of ways in which the step may go on if these variables have values.
func (s step) cost(bound map[string]bool) int64 {
	switch {
	case s.goal.Kind == api.GoalMatch:
		return s.size()
	case allBound(s.goal, bound):
		return 0
	case s.goal.Kind == api.GoalRange:
		return s.size()
	}
	return math.MaxInt64
}

// size returns the number of facts of a GoalMatch, or of numbers of a GoalRange.
func (s step) size() int64 {
	if s.goal.Kind == api.GoalRange {
		return s.goal.High - s.goal.Low + 1
	}
	return int64(len(s.facts))
}

func allBound(g api.Goal, bound map[string]bool) bool {
	return !slices.ContainsFunc(operands(g), func(o api.Operand) bool { return named(o.Var) && !bound[o.Var] })
}

// each calls next, at least once, under each extension of the bindings under which the goal holds, and leaves the
// bindings as they were.
func (s step) each(bindings map[string]api.Value, next func()) {
	switch s.goal.Kind {
	case api.GoalMatch:
		s.eachFact(bindings, next)
	case api.GoalRange:
		s.eachNumber(bindings, next)
	case api.GoalAbsent:
		if !s.contains(bindings) {
			next()
		}
	case api.GoalCompare:
		if compares(s.goal, bindings) {
			next()
		}
	}
}

func (s step) eachFact(bindings map[string]api.Value, next func()) {
	for _, f := range s.facts {
		added, fits := unify(s.goal.Args, f.Args, bindings)
		if fits {
			next()
		}
		for _, name := range added {
			delete(bindings, name)
		}
	}
}

// unify binds the variables that have no value yet, and returns them and whether the operands have these values. The
// variables are returned in both cases.
func unify(args []api.Operand, values []api.Value, bindings map[string]api.Value) ([]string, bool) {
	var added []string
	for i, arg := range args {
		if arg.Var == anyValue {
			continue
		}
		v, isKnown := valueOf(arg, bindings)
		if !isKnown {
			bindings[arg.Var] = values[i]
			added = append(added, arg.Var)
		} else if v != values[i] {
			return added, false
		}
	}
	return added, true
}

func (s step) eachNumber(bindings map[string]api.Value, next func()) {
	g := s.goal
	if v, isBound := bindings[g.Left.Var]; isBound {
		// A value that is not well formed is none of the numbers, so that it does not matter which goal comes first.
		if v == integer(v.Int) && g.Low <= v.Int && v.Int <= g.High {
			next()
		}
		return
	}
	for i := range s.size() {
		bindings[g.Left.Var] = integer(g.Low + i)
		next()
	}
	delete(bindings, g.Left.Var)
}

// contains reports whether there is a fact that a GoalAbsent rules out.
func (s step) contains(bindings map[string]api.Value) bool {
	wanted := known(s.goal.Args, func(i int) api.Value {
		v, _ := valueOf(s.goal.Args[i], bindings)
		return v
	})
	_, found := slices.BinarySearchFunc(s.facts, wanted, facts.Compare)
	return found
}

// valueOf returns the value of a constant or of a variable that has one.
func valueOf(o api.Operand, bindings map[string]api.Value) (api.Value, bool) {
	if o.Var == "" {
		return o.Const, true
	}
	v, isKnown := bindings[o.Var]
	return v, isKnown
}

// compares reports whether a GoalCompare holds.
func compares(g api.Goal, bindings map[string]api.Value) bool {
	left, _ := valueOf(g.Left, bindings)
	right, _ := valueOf(g.Right, bindings)
	if g.Offset == 0 {
		switch g.Op {
		case api.OpEqual:
			return left == right
		case api.OpNotEqual:
			return left != right
		}
	}
	return left.Kind == api.IntValue && right.Kind == api.IntValue &&
		permits(g.Op, compareSum(left.Int, right.Int, g.Offset))
}

// compareSum compares left with right + offset, a sum that may lie outside the range of an int64.
func compareSum(left, right, offset int64) int {
	sum := right + offset
	switch {
	case offset > 0 && sum < right:
		return -1
	case offset < 0 && sum > right:
		return 1
	}
	return cmp.Compare(left, sum)
}

// permits reports whether a comparison holds for a left side that is less than, equal to or greater than the right side.
func permits(op, order int) bool {
	switch op {
	case api.OpEqual:
		return order == 0
	case api.OpNotEqual:
		return order != 0
	case api.OpLess:
		return order < 0
	case api.OpLessEqual:
		return order <= 0
	case api.OpGreater:
		return order > 0
	}
	return order >= 0
}
