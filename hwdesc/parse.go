package hwdesc

import (
	"slices"
	"strings"

	"multikernel/api"
	"multikernel/hwlex"
)

// Parse returns the description that src contains, without validating it, or the position of its first error.
func Parse(src string) (api.Hardware, api.Pos, api.Errno) {
	tokens, pos, err := hwlex.Scan(src)
	if err != api.OK {
		return api.Hardware{}, pos, err
	}
	return read(append(tokens, api.Token{Kind: endOfText, Pos: endPos(src)}))
}

// endOfText is the kind of a token behind the last one, which lets the parser look ahead without a check.
const endOfText = 0

func endPos(src string) api.Pos {
	return api.Pos{Line: 1 + strings.Count(src, "\n"), Col: len(src) - strings.LastIndexByte(src, '\n')}
}

// failure is what the parser throws at the first error.
type failure struct {
	pos api.Pos
	err api.Errno
}

func throw(at api.Token, err api.Errno) { panic(failure{at.Pos, err}) }

func read(tokens []api.Token) (h api.Hardware, pos api.Pos, err api.Errno) {
	defer func() {
		if f, thrown := recover().(failure); thrown {
			h, pos, err = api.Hardware{}, f.pos, f.err
		}
	}()
	p := parser{tokens}
	return p.hardware(), api.Pos{}, api.OK
}

// parser holds the tokens that are left. Its methods throw a failure at a token that does not fit.
type parser struct{ tokens []api.Token }

func (p *parser) hardware() api.Hardware {
	if machine := p.take(api.TokenWord); machine.Text != "machine" {
		throw(machine, api.ErrSyntax)
	}
	h := api.Hardware{Name: p.name(api.TokenString)}
	p.mark("{")
	for !p.skip("}") {
		p.item().addTo(&h)
	}
	p.take(endOfText)
	return h
}

func (p *parser) item() item {
	kind := p.take(api.TokenWord)
	words := attributeWords(kind.Text)
	if words == nil {
		throw(kind, api.ErrSyntax)
	}
	it := item{kind: kind.Text}
	for range headNumbers(it.kind) {
		it.numbers = append(it.numbers, p.number(""))
	}
	if len(it.numbers) == 0 {
		it.name = p.name(api.TokenWord)
	}
	p.mark("{")
	it.values = p.attributes(words)
	p.mark("}")
	return it
}

// attributes returns the numbers of each of the words.
func (p *parser) attributes(words []string) [][]uint64 {
	values := make([][]uint64, len(words))
	for p.tokens[0].Kind == api.TokenWord {
		word := p.take(api.TokenWord)
		i := slices.Index(words, word.Text)
		if i < 0 {
			throw(word, api.ErrSyntax)
		}
		if len(values[i]) > 0 {
			throw(word, api.ErrDuplicate)
		}
		values[i] = p.values(word.Text)
		p.mark(";")
	}
	for _, v := range values {
		if len(v) == 0 {
			throw(p.tokens[0], api.ErrSyntax)
		}
	}
	return values
}

// values returns the numbers after the attribute's word.
func (p *parser) values(attribute string) []uint64 {
	list := []uint64{p.number(attribute)}
	for attribute == "cores" && p.skip(",") {
		list = append(list, p.number(attribute))
	}
	return list
}

func (p *parser) number(attribute string) uint64 {
	t := p.take(api.TokenNumber)
	if !fits(attribute, t.Value) {
		throw(t, api.ErrRange)
	}
	return t.Value
}

// name returns the text of a word or string that names something.
func (p *parser) name(kind int) string {
	t := p.take(kind)
	if len(t.Text) > api.MaxNameLen {
		throw(t, api.ErrName)
	}
	return t.Text
}

func (p *parser) mark(text string) {
	if !p.skip(text) {
		throw(p.tokens[0], api.ErrSyntax)
	}
}

// skip passes over a punctuation mark if it comes next, and reports whether it did.
func (p *parser) skip(text string) bool {
	t := p.tokens[0]
	if t.Kind != api.TokenPunct || t.Text != text {
		return false
	}
	p.tokens = p.tokens[1:]
	return true
}

func (p *parser) take(kind int) api.Token {
	t := p.tokens[0]
	if t.Kind != kind {
		throw(t, api.ErrSyntax)
	}
	p.tokens = p.tokens[1:]
	return t
}
