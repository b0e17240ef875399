package guard

import (
	"remontoir/api"
	"remontoir/lex"
)

// Print returns the guard l in infix form and true, or an empty string and false if l is not a valid postfix guard.
func Print(l []api.Sign) (string, bool) {
	if !Good(l) {
		return "", false
	}
	return lex.Print(infix(l)...)
}

// link is a sign in infix form and the one behind it.
type link struct {
	sign api.Sign
	next *link
}

// phrase is an operand in infix form, with the kind of the sign that yields it. Its signs are linked, since copying them for each operator that contains them would take too long in long guards.
type phrase struct {
	kind        int
	first, last *link
}

// infix returns the signs of a valid postfix guard in infix form.
func infix(l []api.Sign) []api.Sign {
	var operands []phrase
	for _, s := range l {
		rest := len(operands) - grammars[s.Kind].operands
		operands = append(operands[:rest], apply(s, operands[rest:]))
	}
	var signs []api.Sign
	for at := operands[0].first; at != nil; at = at.next {
		signs = append(signs, at.sign)
	}
	return signs
}

// apply returns what the sign s makes of its operands.
func apply(s api.Sign, operands []phrase) phrase {
	var p phrase
	for index, operand := range operands {
		if needsBrackets(s.Kind, operand.kind, index) {
			operands[index] = enclosed(operand)
		}
	}
	switch len(operands) {
	case 0:
		p = written(s)
	case 1:
		p = join(written(s), operands[0])
	default:
		p = join(operands[0], written(s), operands[1])
	}
	p.kind = s.Kind
	return p
}

// needsBrackets reports whether the operand at the index needs brackets: if it binds less tightly than the operator, and as second operand also if it binds as tightly, since operators are left-associative.
func needsBrackets(operator, operand, index int) bool {
	if index == 0 {
		return grammars[operand].rank < grammars[operator].rank
	}
	return grammars[operand].rank <= grammars[operator].rank
}

// enclosed returns p in the brackets for its type.
func enclosed(p phrase) phrase {
	if grammars[p.kind].yields == boolean {
		return join(written(api.Sign{Kind: api.Open}), p, written(api.Sign{Kind: api.Shut}))
	}
	return join(written(api.Sign{Kind: api.From}), p, written(api.Sign{Kind: api.To}))
}

// written returns the phrase of one sign, in which a Neg is written as a Minus.
func written(s api.Sign) phrase {
	if s.Kind == api.Neg {
		s.Kind = api.Minus
	}
	only := &link{sign: s}
	return phrase{first: only, last: only}
}

// join returns the phrases one behind the other.
func join(first phrase, others ...phrase) phrase {
	for _, other := range others {
		first.last.next = other.first
		first.last = other.last
	}
	return first
}
