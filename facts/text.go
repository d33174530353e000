package facts

import (
	"math"
	"strconv"
	"strings"

	"multikernel/api"
	"multikernel/hwlex"
)

// Format returns the text of the set db, or the empty string if one of its facts is not well formed.
func Format(db []api.Fact) string {
	var text strings.Builder
	for _, f := range setOf(db) {
		if !wellFormed(f) {
			return ""
		}
		text.WriteString(f.Relation + "(")
		for i, v := range f.Args {
			if i > 0 {
				text.WriteString(", ")
			}
			text.WriteString(valueText(v))
		}
		text.WriteString(").\n")
	}
	return text.String()
}

// valueText returns the text of a well-formed value.
func valueText(v api.Value) string {
	switch {
	case v.Kind == api.IntValue:
		return strconv.FormatInt(v.Int, 10)
	case hwlex.IsName(v.Word):
		return v.Word
	}
	return quoted(v.Word)
}

// quoted returns text as a string, or the empty text if it cannot be one.
func quoted(text string) string {
	return hwlex.Format([]api.Token{{Kind: api.TokenString, Text: text}})
}

// Parse returns the set of the facts that src contains, or the position of its first error.
func Parse(src string) ([]api.Fact, api.Pos, api.Errno) {
	tokens, pos, err := hwlex.Scan(src)
	if err != api.OK {
		return nil, pos, err
	}
	p := parser{append(tokens, api.Token{Kind: endOfText, Pos: endPos(src)})}
	list, err := p.facts()
	if err != api.OK {
		return nil, p.tokens[0].Pos, err
	}
	return setOf(list), api.Pos{}, api.OK
}

// endOfText is the kind of a token behind the last one, which lets the parser look ahead without a check.
const endOfText = 0

func endPos(src string) api.Pos {
	return api.Pos{Line: 1 + strings.Count(src, "\n"), Col: len(src) - strings.LastIndexByte(src, '\n')}
}

// parser holds the tokens that are left. A method that returns an error leaves the offending token as the first of them.
type parser struct{ tokens []api.Token }

func (p *parser) facts() ([]api.Fact, api.Errno) {
	var list []api.Fact
	for p.tokens[0].Kind != endOfText {
		relation, err := p.relation(len(list) < api.MaxFacts)
		if err != api.OK {
			return nil, err
		}
		args, err := p.arguments()
		if err != api.OK {
			return nil, err
		}
		list = append(list, api.Fact{Relation: relation, Args: args})
	}
	return list, api.OK
}

// relation returns the first word of a fact, for which there may be no room.
func (p *parser) relation(room bool) (string, api.Errno) {
	switch t := p.tokens[0]; {
	case t.Kind != api.TokenWord:
		return "", api.ErrSyntax
	case !nameSized(t.Text):
		return "", api.ErrName
	case !room:
		return "", api.ErrLimit
	}
	return p.take().Text, api.OK
}

// arguments returns what follows the relation of a fact, up to the final mark.
func (p *parser) arguments() ([]api.Value, api.Errno) {
	if err := p.marks("("); err != api.OK {
		return nil, err
	}
	var args []api.Value
	for more := true; more; more = p.marks(",") == api.OK {
		v, err := p.argument(len(args) < api.MaxArity)
		if err != api.OK {
			return nil, err
		}
		args = append(args, v)
	}
	return args, p.marks(")", ".")
}

// argument returns a value, for which there may be no room.
func (p *parser) argument(room bool) (api.Value, api.Errno) {
	err := firstError(p.tokens[0])
	switch {
	case err != api.OK:
		return api.Value{}, err
	case !room:
		return api.Value{}, api.ErrLimit
	}
	switch t := p.take(); t.Kind {
	case api.TokenPunct:
		return p.negative()
	case api.TokenNumber:
		return number(t.Value), api.OK
	default:
		return word(t.Text), api.OK
	}
}

// firstError returns the error of an argument that begins with t.
func firstError(t api.Token) api.Errno {
	switch {
	case t.Kind == api.TokenNumber && t.Value > math.MaxInt64:
		return api.ErrRange
	case (t.Kind == api.TokenWord || t.Kind == api.TokenString) && !nameSized(t.Text):
		return api.ErrName
	case t.Kind == api.TokenPunct && t.Text != "-" || t.Kind == endOfText:
		return api.ErrSyntax
	}
	return api.OK
}

// negative returns the value of a number after its sign.
func (p *parser) negative() (api.Value, api.Errno) {
	switch t := p.tokens[0]; {
	case t.Kind != api.TokenNumber:
		return api.Value{}, api.ErrSyntax
	case t.Value > 1<<63:
		return api.Value{}, api.ErrRange
	}
	// The negation wraps around, and so does its conversion back to a signed number: 2^63 becomes -2^63.
	return number(-p.take().Value), api.OK
}

// marks passes over punctuation marks, as far as they come next in this order.
func (p *parser) marks(texts ...string) api.Errno {
	for _, text := range texts {
		if t := p.tokens[0]; t.Kind != api.TokenPunct || t.Text != text {
			return api.ErrSyntax
		}
		p.take()
	}
	return api.OK
}

func (p *parser) take() api.Token {
	t := p.tokens[0]
	p.tokens = p.tokens[1:]
	return t
}
