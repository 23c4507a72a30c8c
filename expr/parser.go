package expr

import "watershed/api"

// How strongly operators bind, the weakest first.
const (
	openLevel = iota // an open parenthesis: no operator behind it gives an operand to one ahead of it
	orLevel
	andLevel
	compareLevel
	sumLevel
	productLevel
	prefixLevel
)

// operator waits for its right operand to be complete.
type operator struct {
	sign  string
	level int
}

// parser takes the tokens of a text one by one. It has two stacks instead of calls within calls, so that its state is what the syntax speaks of: what is expected, and whether a parenthesis is open.
type parser struct {
	operands []Expr
	pending  []operator // and the parentheses that are open
	open     int        // how many these are
	parts    int
	complete bool // a value is complete and an operator is expected; otherwise a value is
}

// take takes the next token, or returns the error at it.
func (p *parser) take(w token) api.Errno {
	if !p.allows(w) {
		if w.kind == endToken {
			return api.ErrEnd
		}
		return api.ErrWord
	}
	if isPart(w) {
		if p.parts == api.MaxNodes {
			return api.ErrMany
		}
		p.parts++
	}
	p.put(w)
	return api.OK
}

// allows tells whether a token may stand where the parser is.
func (p *parser) allows(w token) bool {
	switch {
	case w.kind == endToken:
		return p.complete && p.open == 0
	case w.text == ")":
		return p.complete && p.open > 0
	case p.complete:
		return levelOf(w.text) != openLevel
	}
	return w.kind == numberToken || w.kind == nameToken || w.text == "-" || w.text == "!" || w.text == "("
}

// isPart tells whether a token that is allowed counts among the parts.
func isPart(w token) bool {
	return w.kind != endToken && w.text != "(" && w.text != ")"
}

// put does what a token that is allowed says.
func (p *parser) put(w token) {
	switch {
	case w.kind == endToken:
		p.join(orLevel)
	case w.kind == numberToken:
		p.operands = append(p.operands, number(w.text))
		p.complete = true
	case w.kind == nameToken:
		p.operands = append(p.operands, name(w.text))
		p.complete = true
	case w.text == "(":
		p.pending = append(p.pending, operator{w.text, openLevel})
		p.open++
	case w.text == ")":
		p.join(orLevel)
		p.pop()
		p.open--
	case p.complete:
		level := levelOf(w.text)
		p.join(level)
		p.pending = append(p.pending, operator{w.text, level})
		p.complete = false
	default:
		p.pending = append(p.pending, operator{w.text, prefixLevel})
	}
}

// join gives the pending operators their operands, from the last one on as long as they bind at least as strongly as level: those of the same level too, because they associate to the left.
func (p *parser) join(level int) {
	for len(p.pending) > 0 && p.pending[len(p.pending)-1].level >= level {
		o := p.pop()
		last := len(p.operands) - 1
		if o.level == prefixLevel {
			p.operands[last] = prefix(o.sign, p.operands[last])
			continue
		}
		p.operands[last-1] = binary(o.sign, p.operands[last-1], p.operands[last])
		p.operands = p.operands[:last]
	}
}

// pop takes the last one off the pending operators.
func (p *parser) pop() operator {
	last := len(p.pending) - 1
	o := p.pending[last]
	p.pending = p.pending[:last]
	return o
}

// whole returns the one operand that is left at the end, as a copy: the stack need not be kept.
func (p *parser) whole() *Expr {
	e := p.operands[0]
	return &e
}

// levelOf returns how strongly a binary operator binds: openLevel if sign is none.
func levelOf(sign string) int {
	switch sign {
	case "||":
		return orLevel
	case "&&":
		return andLevel
	case "==", "!=", "<=", ">=", "<", ">":
		return compareLevel
	case "+", "-":
		return sumLevel
	case "*", "/", "%":
		return productLevel
	}
	return openLevel
}
