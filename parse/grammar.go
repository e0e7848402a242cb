package parse

import (
	"slices"

	"stutter/api"
	"stutter/exprs"
)

// list is a junction list: the tokens that are its signs, and the one behind it.
type list struct {
	signs []int
	end   int
}

// situation is what the reading of an operand depends on.
type situation struct {
	at, depth, limit int
	limited          bool
}

// reading is an operand that was read, and where it ends.
type reading struct {
	tree *exprs.Tree
	end  int
}

// parser reads expressions; depth is how many operands are within one another here.
type parser struct {
	cursor
	depth int
	lists map[int]list
	read  map[situation]reading
}

// pending is an operator that waits for its last operand.
type pending struct {
	op   api.Operator
	kids []*exprs.Tree
}

// expression reads an expression as far as it goes.
func (p *parser) expression() *exprs.Tree {
	p.depth++
	var stack []pending
	for {
		stack = p.prefixes(stack)
		operand := p.operand()
		for {
			o, follows := p.followNext()
			if !follows {
				for len(stack) > 0 {
					operand, stack = reduced(operand, stack)
				}
				p.depth--
				return operand
			}
			operand, stack = p.settled(o, operand, stack)
			p.at++
			if o.Fix == api.FixPostfix {
				operand = exprs.ApplyTree(o.Text, operand)
				continue
			}
			stack = pushed(o, operand, stack)
			break
		}
	}
}

// prefixes reads prefix operators.
func (p *parser) prefixes(stack []pending) []pending {
	for {
		o, is := p.prefixNext()
		if !is {
			return stack
		}
		if n := len(stack); n > 0 && stack[n-1].op.Fix == api.FixInfix && stack[n-1].op.High >= o.Low {
			p.conflict(stack[n-1].op, o)
		}
		stack = append(stack, pending{op: o})
		p.at++
	}
}

func (p *parser) conflict(s, i api.Operator) {
	panic(failure{at: p.at, err: api.ErrClash, clash: [2]string{s.Text, i.Text}})
}

// settled asks the operators before an operand, the nearest one first, whether it belongs to them or to the one behind it.
func (p *parser) settled(i api.Operator, operand *exprs.Tree, stack []pending) (*exprs.Tree, []pending) {
	for len(stack) > 0 {
		s := stack[len(stack)-1].op
		same := s.Text == i.Text && s.Fix == api.FixInfix
		switch {
		case i.High < s.Low || same && i.Left:
			operand, stack = reduced(operand, stack)
		case s.High < i.Low || same && i.Most > 2:
			return operand, stack
		default:
			p.conflict(s, i)
		}
	}
	return operand, stack
}

// reduced gives an operand to the operator before it.
func reduced(operand *exprs.Tree, stack []pending) (*exprs.Tree, []pending) {
	top := stack[len(stack)-1]
	return exprs.ApplyTree(top.op.Text, append(top.kids, operand)...), stack[:len(stack)-1]
}

// pushed lets an infix operator wait; several \X are one operator.
func pushed(o api.Operator, operand *exprs.Tree, stack []pending) []pending {
	if n := len(stack); n > 0 && stack[n-1].op.Text == o.Text && o.Most > 2 {
		stack[n-1].kids = append(stack[n-1].kids, operand)
		return stack
	}
	return append(stack, pending{op: o, kids: []*exprs.Tree{operand}})
}

// operand reads an operand with all that stands behind it.
func (p *parser) operand() *exprs.Tree {
	if !p.has() {
		p.fail()
	}
	if p.depth > api.MaxParseDepth {
		panic(failure{at: p.at, err: api.ErrLarge})
	}
	now := situation{p.at, p.depth, p.limit, p.limited}
	if r, is := p.read[now]; is {
		p.at = r.end
		return r.tree
	}
	t, open := p.openOperand()
	if !open {
		t = p.suffixes(p.closedOperand())
	}
	p.read[now] = reading{t, p.at}
	return t
}

// suffixes reads arguments and fields behind an operand.
func (p *parser) suffixes(t *exprs.Tree) *exprs.Tree {
	for {
		switch {
		case p.taken("["):
			t = &exprs.Tree{Kind: api.ExprCall, Kids: append([]*exprs.Tree{t}, p.expressions()...)}
			p.take("]")
		case p.taken("."):
			t = &exprs.Tree{Kind: api.ExprField, Text: p.name(), Kids: []*exprs.Tree{t}}
		default:
			return t
		}
	}
}

// expressions reads at least one expression, with commas between.
func (p *parser) expressions() []*exprs.Tree {
	out := []*exprs.Tree{p.expression()}
	for p.taken(",") {
		out = append(out, p.expression())
	}
	return out
}

// openOperand reads an operand behind which no argument can stand: a list, or one that goes as far as it can.
func (p *parser) openOperand() (*exprs.Tree, bool) {
	switch p.textAt(0) {
	case `/\`, `\/`:
		return p.junction(), true
	case `\A`:
		return p.quantifier(api.ExprAll, api.ExprAny), true
	case `\E`:
		return p.quantifier(api.ExprSome, api.ExprExists), true
	case "CHOOSE":
		p.at++
		name := p.name()
		p.take(`\in`)
		set := p.expression()
		p.take(":")
		return &exprs.Tree{Kind: api.ExprChoose, Names: []string{name}, Kids: []*exprs.Tree{set, p.expression()}}, true
	case "IF":
		p.at++
		condition := p.expression()
		p.take("THEN")
		yes := p.expression()
		p.take("ELSE")
		return &exprs.Tree{Kind: api.ExprIf, Kids: []*exprs.Tree{condition, yes, p.expression()}}, true
	case "CASE":
		return p.cases(), true
	case "LET":
		p.at++
		return p.definitions(), true
	}
	return nil, false
}

// junction reads a list; the column of its signs bounds its items.
func (p *parser) junction() *exprs.Tree {
	first := p.list[p.at]
	before := p.cursor
	found := list{}
	var out *exprs.Tree
	for p.at < len(p.list) && p.list[p.at].Text == first.Text && p.list[p.at].Column == first.Column {
		found.signs = append(found.signs, p.at)
		p.at++
		p.limited, p.limit = true, first.Column
		item := p.expression()
		p.limited, p.limit = before.limited, before.limit
		if out == nil {
			out = item
		} else {
			out = exprs.ApplyTree(first.Text, out, item)
		}
	}
	found.end = p.at
	p.lists[found.signs[0]] = found
	return out
}

// quantifier reads \A or \E with bounds or with names alone.
func (p *parser) quantifier(bounded, unbounded int) *exprs.Tree {
	p.at++
	names := p.names()
	if p.taken(":") {
		return &exprs.Tree{Kind: unbounded, Names: names, Kids: []*exprs.Tree{p.expression()}}
	}
	names, sets := p.boundsFrom(names)
	p.take(":")
	return &exprs.Tree{Kind: bounded, Names: names, Kids: append(sets, p.expression())}
}

// boundsFrom reads what follows the first names of bounds; names with one set share it.
func (p *parser) boundsFrom(group []string) ([]string, []*exprs.Tree) {
	var names []string
	var sets []*exprs.Tree
	for {
		p.take(`\in`)
		set := p.expression()
		names = append(names, group...)
		for range group {
			sets = append(sets, set)
		}
		if !p.taken(",") {
			return names, sets
		}
		group = p.names()
	}
}

func (p *parser) bounds() ([]string, []*exprs.Tree) {
	return p.boundsFrom(p.names())
}

// cases reads a CASE.
func (p *parser) cases() *exprs.Tree {
	t := &exprs.Tree{Kind: api.ExprCase}
	p.at++
	for {
		if p.taken("OTHER") {
			p.take("->")
			t.Kids = append(t.Kids, p.expression())
			return t
		}
		condition := p.expression()
		p.take("->")
		t.Kids = append(t.Kids, condition, p.expression())
		if !p.taken("[]") {
			return t
		}
	}
}

// definitions reads the definitions of a LET, and what is behind IN.
func (p *parser) definitions() *exprs.Tree {
	t := &exprs.Tree{Kind: api.ExprLet}
	declared, places := "", 0
	if p.taken("RECURSIVE") {
		t.N = 1
		declared = p.name()
		places = p.placeholders()
	}
	if t.N == 1 && p.textAt(0) != declared {
		p.fail()
	}
	t.Names = []string{p.name()}
	if t.N == 1 && places > 0 || t.N == 0 && p.is("(") {
		t.Names = append(t.Names, p.parameters(places)...)
	}
	p.take("==")
	body := p.expression()
	t.Kids = []*exprs.Tree{body, nil}
	if p.taken("IN") {
		t.Kids[1] = p.expression()
	} else if p.isName() || p.is("RECURSIVE") {
		t.Kids[1] = p.definitions()
	} else {
		p.fail()
	}
	return t
}

// placeholders reads "(_, _)", and returns how many there are.
func (p *parser) placeholders() int {
	if !p.taken("(") {
		return 0
	}
	p.take("_")
	n := 1
	for p.taken(",") {
		p.take("_")
		n++
	}
	p.take(")")
	return n
}

// parameters reads names in parentheses: so many, if a number is given.
func (p *parser) parameters(places int) []string {
	p.take("(")
	out := []string{p.name()}
	for places == 0 && p.is(",") || len(out) < places {
		p.take(",")
		out = append(out, p.name())
	}
	p.take(")")
	return slices.Clip(out)
}
