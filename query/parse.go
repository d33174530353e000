package query

import (
	"math"
	"strings"

	"multikernel/api"
	"multikernel/hwlex"
)

// Parse returns the query that src contains, without validating it, or the position of its first error.
func Parse(src string) (api.Query, api.Pos, api.Errno) {
	tokens, pos, err := hwlex.Scan(src)
	if err != api.OK {
		return api.Query{}, pos, err
	}
	p := parser{append(tokens, api.Token{Kind: endOfText, Pos: endPos(src)})}
	q, err := p.query()
	if err != api.OK {
		return api.Query{}, p.tokens[0].Pos, err
	}
	return q, api.Pos{}, api.OK
}

// endOfText is the kind of a token behind the last one, which lets the parser look ahead without a check.
const endOfText = 0

func endPos(src string) api.Pos {
	return api.Pos{Line: 1 + strings.Count(src, "\n"), Col: len(src) - strings.LastIndexByte(src, '\n')}
}

// parser holds the tokens that are left. A method that returns an error leaves the offending token as the first of them.
type parser struct{ tokens []api.Token }

func (p *parser) query() (api.Query, api.Errno) {
	if !p.skip(api.TokenWord, "select") {
		return api.Query{}, api.ErrSyntax
	}
	var q api.Query
	var err api.Errno
	if !p.skip(api.TokenWord, "where") {
		if q.Select, err = separated(p, p.name); err != api.OK {
			return api.Query{}, err
		}
		if !p.skip(api.TokenWord, "where") {
			return api.Query{}, api.ErrSyntax
		}
	}
	if q.Goals, err = separated(p, p.goal); err != api.OK {
		return api.Query{}, err
	}
	if p.tokens[0].Kind != endOfText {
		return api.Query{}, api.ErrSyntax
	}
	return q, api.OK
}

// separated returns one or more elements that are separated by commas.
func separated[T any](p *parser, element func() (T, api.Errno)) ([]T, api.Errno) {
	var list []T
	for more := true; more; more = p.skip(api.TokenPunct, ",") {
		x, err := element()
		if err != api.OK {
			return nil, err
		}
		list = append(list, x)
	}
	return list, api.OK
}

func (p *parser) goal() (api.Goal, api.Errno) {
	first := p.tokens[0].Kind
	switch {
	case p.skip(api.TokenWord, "not"):
		return p.tuple(api.GoalAbsent)
	case first == api.TokenWord && p.tokens[1].Kind == api.TokenPunct && p.tokens[1].Text == "(":
		return p.tuple(api.GoalMatch)
	}
	left, err := p.operand()
	switch {
	case err != api.OK:
		return api.Goal{}, err
	case first == api.TokenWord && p.skip(api.TokenWord, "in"):
		return p.bounds(left)
	}
	return p.comparison(left)
}

func (p *parser) tuple(kind int) (api.Goal, api.Errno) {
	relation, err := p.name()
	if err != api.OK {
		return api.Goal{}, err
	}
	if !p.skip(api.TokenPunct, "(") {
		return api.Goal{}, api.ErrSyntax
	}
	args, err := separated(p, p.operand)
	if err != api.OK {
		return api.Goal{}, err
	}
	if !p.skip(api.TokenPunct, ")") {
		return api.Goal{}, api.ErrSyntax
	}
	return api.Goal{Kind: kind, Relation: relation, Args: args}, api.OK
}

// bounds returns the goal whose least and greatest number come next.
func (p *parser) bounds(left api.Operand) (api.Goal, api.Errno) {
	low, err := p.integer()
	if err != api.OK {
		return api.Goal{}, err
	}
	if !p.skip(api.TokenPunct, "..") {
		return api.Goal{}, api.ErrSyntax
	}
	high, err := p.integer()
	return api.Goal{Kind: api.GoalRange, Left: left, Low: low, High: high}, err
}

// comparison returns the goal whose mark and right side come next.
func (p *parser) comparison(left api.Operand) (api.Goal, api.Errno) {
	op, err := p.op()
	if err != api.OK {
		return api.Goal{}, err
	}
	right, err := p.operand()
	if err != api.OK {
		return api.Goal{}, err
	}
	offset, err := p.offset()
	return api.Goal{Kind: api.GoalCompare, Left: left, Op: op, Right: right, Offset: offset}, err
}

func (p *parser) op() (int, api.Errno) {
	for i, text := range opTexts {
		if p.skip(api.TokenPunct, text) {
			return api.OpEqual + i, api.OK
		}
	}
	return 0, api.ErrSyntax
}

// offset returns what a comparison adds to its right side, which is 0 if there is no sign.
func (p *parser) offset() (int64, api.Errno) {
	sign := int64(1)
	switch {
	case p.skip(api.TokenPunct, "+"):
	case p.skip(api.TokenPunct, "-"):
		sign = -1
	default:
		return 0, api.OK
	}
	n, err := p.number(math.MaxInt64)
	return sign * int64(n), err
}

func (p *parser) operand() (api.Operand, api.Errno) {
	switch t := p.tokens[0]; t.Kind {
	case api.TokenWord:
		name, err := p.name()
		if isVariable(name) {
			return api.Operand{Var: name}, err
		}
		return api.Operand{Const: word(name)}, err
	case api.TokenString:
		if t.Text == "" || len(t.Text) > api.MaxNameLen {
			return api.Operand{}, api.ErrName
		}
		return api.Operand{Const: word(p.take().Text)}, api.OK
	}
	n, err := p.integer()
	return api.Operand{Const: integer(n)}, err
}

// name returns a word that is not reserved.
func (p *parser) name() (string, api.Errno) {
	switch t := p.tokens[0]; {
	case t.Kind != api.TokenWord || isReserved(t.Text):
		return "", api.ErrSyntax
	case len(t.Text) > api.MaxNameLen:
		return "", api.ErrName
	}
	return p.take().Text, api.OK
}

func (p *parser) integer() (int64, api.Errno) {
	if p.skip(api.TokenPunct, "-") {
		n, err := p.number(1 << 63)
		// The negation wraps around, and so does its conversion to a signed number: 2^63 becomes -2^63.
		return int64(-n), err
	}
	n, err := p.number(math.MaxInt64)
	return int64(n), err
}

func (p *parser) number(greatest uint64) (uint64, api.Errno) {
	switch t := p.tokens[0]; {
	case t.Kind != api.TokenNumber:
		return 0, api.ErrSyntax
	case t.Value > greatest:
		return 0, api.ErrRange
	}
	return p.take().Value, api.OK
}

// skip passes over a word or punctuation mark if it comes next, and reports whether it did.
func (p *parser) skip(kind int, text string) bool {
	t := p.tokens[0]
	if t.Kind != kind || t.Text != text {
		return false
	}
	p.take()
	return true
}

func (p *parser) take() api.Token {
	t := p.tokens[0]
	p.tokens = p.tokens[1:]
	return t
}
