package query

import (
	"strconv"
	"strings"

	"multikernel/api"
	"multikernel/hwlex"
)

// opTexts are the marks of the comparisons from OpEqual to OpGreaterEqual.
var opTexts = []string{"=", "!=", "<", "<=", ">", ">="}

// Format returns the canonical text of q, or the empty string if q is not valid.
func Format(q api.Query) string {
	if Validate(q) != api.OK {
		return ""
	}
	text := "select "
	if len(q.Select) > 0 {
		text += strings.Join(q.Select, ", ") + " "
	}
	return text + "where " + joined(q.Goals, goalText)
}

// joined returns the texts of the elements of a list, separated by commas.
func joined[T any](list []T, text func(T) string) string {
	var texts []string
	for _, x := range list {
		texts = append(texts, text(x))
	}
	return strings.Join(texts, ", ")
}

func goalText(g api.Goal) string {
	switch g.Kind {
	case api.GoalMatch:
		return tupleText(g)
	case api.GoalAbsent:
		return "not " + tupleText(g)
	case api.GoalCompare:
		return operandText(g.Left) + " " + opTexts[g.Op-api.OpEqual] + " " + operandText(g.Right) + offsetText(g.Offset)
	}
	return g.Left.Var + " in " + decimal(g.Low) + " .. " + decimal(g.High)
}

func tupleText(g api.Goal) string { return g.Relation + "(" + joined(g.Args, operandText) + ")" }

func offsetText(offset int64) string {
	switch {
	case offset > 0:
		return " + " + decimal(offset)
	case offset < 0:
		return " - " + decimal(-offset)
	}
	return ""
}

func operandText(o api.Operand) string {
	switch {
	case o.Var != "":
		return o.Var
	case o.Const.Kind == api.IntValue:
		return decimal(o.Const.Int)
	case hwlex.IsName(o.Const.Word) && !isReserved(o.Const.Word) && !isVariable(o.Const.Word):
		return o.Const.Word
	}
	return hwlex.Format([]api.Token{{Kind: api.TokenString, Text: o.Const.Word}})
}

func decimal(n int64) string { return strconv.FormatInt(n, 10) }
