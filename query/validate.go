package query

import (
	"math"
	"slices"

	"multikernel/api"
	"multikernel/hwlex"
)

// Validate returns the first error of q in the order of P5.3.
func Validate(q api.Query) api.Errno {
	switch {
	case exceedsLimits(q):
		return api.ErrLimit
	case slices.ContainsFunc(q.Goals, misshapen):
		return api.ErrSyntax
	case misnamed(q):
		return api.ErrName
	case slices.ContainsFunc(q.Goals, outOfRange):
		return api.ErrRange
	case repeats(q.Select):
		return api.ErrDuplicate
	case hasUnbound(q):
		return api.ErrUnsafe
	}
	return api.OK
}

func exceedsLimits(q api.Query) bool {
	return len(q.Goals) < 1 || len(q.Goals) > api.MaxGoals ||
		len(q.Select) > api.MaxVars ||
		slices.ContainsFunc(q.Goals, badArity) ||
		len(variables(q)) > api.MaxVars
}

func badArity(g api.Goal) bool {
	return isTuple(g) && (len(g.Args) < 1 || len(g.Args) > api.MaxArity)
}

// isTuple reports whether a goal has a relation and arguments.
func isTuple(g api.Goal) bool { return g.Kind == api.GoalMatch || g.Kind == api.GoalAbsent }

// variables returns the set of the named variables of q.
func variables(q api.Query) map[string]bool {
	set := map[string]bool{}
	for _, name := range q.Select {
		if named(name) {
			set[name] = true
		}
	}
	for _, g := range q.Goals {
		addNamed(set, g)
	}
	return set
}

func misshapen(g api.Goal) bool {
	return g.Kind < api.GoalMatch || g.Kind > api.GoalRange ||
		!isZero(unused(g)) ||
		slices.ContainsFunc(operands(g), isTwofold) ||
		g.Kind == api.GoalRange && g.Left.Var == ""
}

// unused returns g without the fields that its kind uses.
func unused(g api.Goal) api.Goal {
	switch g.Kind {
	case api.GoalMatch, api.GoalAbsent:
		g.Relation, g.Args = "", nil
	case api.GoalCompare:
		g.Left, g.Op, g.Right, g.Offset = api.Operand{}, 0, api.Operand{}, 0
	case api.GoalRange:
		g.Left, g.Low, g.High = api.Operand{}, 0, 0
	}
	return g
}

// isZero reports whether all fields of a goal but its kind are zero.
func isZero(g api.Goal) bool {
	return g.Relation == "" && len(g.Args) == 0 && g.Op == 0 &&
		g.Left == api.Operand{} && g.Right == api.Operand{} && g.Offset == 0 && g.Low == 0 && g.High == 0
}

// isTwofold reports whether an operand is a variable and has a constant as well.
func isTwofold(o api.Operand) bool { return o.Var != "" && o.Const != api.Value{} }

func misnamed(q api.Query) bool {
	for _, name := range q.Select {
		if !isVariableName(name) {
			return true
		}
	}
	for _, g := range q.Goals {
		if isTuple(g) && (!hwlex.IsName(g.Relation) || isReserved(g.Relation)) {
			return true
		}
		for _, o := range operands(g) {
			if !wellNamed(o, isTuple(g)) {
				return true
			}
		}
	}
	return false
}

// wellNamed checks an operand, which may stand for any value or not.
func wellNamed(o api.Operand, mayBeAny bool) bool {
	switch o.Var {
	case "":
		return wellFormed(o.Const)
	case anyValue:
		return mayBeAny
	}
	return isVariableName(o.Var)
}

func outOfRange(g api.Goal) bool {
	switch g.Kind {
	case api.GoalCompare:
		return g.Op < api.OpEqual || g.Op > api.OpGreaterEqual || g.Offset == math.MinInt64
	case api.GoalRange:
		// As an unsigned number the difference does not overflow.
		return g.Low > g.High || uint64(g.High)-uint64(g.Low) > api.MaxWork
	}
	return false
}

func repeats(names []string) bool {
	for i, name := range names {
		if slices.Contains(names[:i], name) {
			return true
		}
	}
	return false
}

// hasUnbound reports whether there is a named variable to which no goal gives values.
func hasUnbound(q api.Query) bool {
	bound := map[string]bool{}
	for _, g := range q.Goals {
		if isGenerator(g) {
			addNamed(bound, g)
		}
	}
	return len(bound) < len(variables(q))
}

// isGenerator reports whether a goal gives values to its variables.
func isGenerator(g api.Goal) bool { return g.Kind == api.GoalMatch || g.Kind == api.GoalRange }
