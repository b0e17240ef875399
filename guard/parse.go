package guard

import (
	"slices"

	"remontoir/api"
	"remontoir/lex"
)

// Parse returns the guard s in postfix form, the error of lex.Lex, or ErrForm if its signs are not a guard.
func Parse(s string) (postfix []api.Sign, e api.Errno) {
	signs, e := lex.Lex(s)
	if e != api.OK {
		return nil, e
	}
	defer func() {
		if recover() != nil {
			postfix, e = nil, api.ErrForm
		}
	}()
	p := parser{rest: signs}
	p.guard()
	p.end()
	return p.postfix, api.OK
}

// parser has a method for each thing of the grammar, which takes the signs of that thing from rest and appends them to postfix. It panics if they are not such a thing.
type parser struct{ rest, postfix []api.Sign }

func (p *parser) guard() {
	p.separated(p.conjunction, api.Any)
}

func (p *parser) conjunction() {
	p.separated(p.condition, api.Both)
}

func (p *parser) condition() {
	switch {
	case p.at(api.Not):
		not := p.take(api.Not)
		p.condition()
		p.write(not)
	case p.at(api.Open):
		p.take(api.Open)
		p.guard()
		p.take(api.Shut)
	default:
		p.sum()
		comparison := p.take(api.Less, api.AtMost, api.More, api.AtLeast, api.Same, api.Other)
		p.sum()
		p.write(comparison)
	}
}

func (p *parser) sum() {
	p.separated(p.product, api.Plus, api.Minus)
}

func (p *parser) product() {
	p.separated(p.factor, api.Times)
}

func (p *parser) factor() {
	switch {
	case p.at(api.Minus):
		p.take(api.Minus)
		p.factor()
		p.write(api.Sign{Kind: api.Neg})
	case p.at(api.From):
		p.take(api.From)
		p.sum()
		p.take(api.To)
	default:
		p.write(p.take(api.Number, api.Name))
	}
}

// separated parses operands that are separated by operators of the kinds. As each operator is written right behind its second operand, the operators are left-associative.
func (p *parser) separated(operand func(), kinds ...int) {
	operand()
	for p.at(kinds...) {
		operator := p.take(kinds...)
		operand()
		p.write(operator)
	}
}

// at reports whether the next sign is of one of the kinds.
func (p *parser) at(kinds ...int) bool {
	return len(p.rest) > 0 && slices.Contains(kinds, p.rest[0].Kind)
}

// take returns the next sign, which has to be of one of the kinds, and goes past it.
func (p *parser) take(kinds ...int) api.Sign {
	if !p.at(kinds...) {
		panic(api.ErrForm)
	}
	next := p.rest[0]
	p.rest = p.rest[1:]
	return next
}

// end panics if any sign remains.
func (p *parser) end() {
	if len(p.rest) > 0 {
		panic(api.ErrForm)
	}
}

func (p *parser) write(s api.Sign) {
	p.postfix = append(p.postfix, s)
}
