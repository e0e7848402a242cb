package parse

import (
	"strconv"
	"strings"

	"stutter/api"
	"stutter/exprs"
)

// closedOperand reads an operand that ends by itself.
func (p *parser) closedOperand() *exprs.Tree {
	t := p.list[p.at]
	switch t.Kind {
	case api.TokenNumber:
		p.at++
		n, _ := strconv.Atoi(t.Text)
		return &exprs.Tree{Kind: api.ExprNumber, N: n}
	case api.TokenString:
		p.at++
		return &exprs.Tree{Kind: api.ExprString, Text: strings.Trim(t.Text, `"`)}
	case api.TokenName:
		return p.named()
	}
	p.at++
	switch t.Text {
	case "TRUE", "FALSE":
		return exprs.NameTree(t.Text)
	case "@":
		return &exprs.Tree{Kind: api.ExprOld}
	case "(":
		inner := p.expression()
		p.take(")")
		return inner
	case "<<":
		return p.tuple()
	case "{":
		return p.set()
	case "[":
		return p.bracketed()
	case "WF_":
		return p.fairness(api.ExprWeak)
	case "SF_":
		return p.fairness(api.ExprStrong)
	}
	p.at--
	p.fail()
	return nil
}

// named reads a name, perhaps a qualified one, perhaps with arguments.
func (p *parser) named() *exprs.Tree {
	text := p.name()
	if p.taken("!") {
		text += "!" + p.name()
	}
	if !p.taken("(") {
		return exprs.NameTree(text)
	}
	t := exprs.ApplyTree(text, p.argument())
	for p.taken(",") {
		arg := p.argument()
		t.Kids = append(t.Kids, arg)
	}
	p.take(")")
	return t
}

func (p *parser) argument() *exprs.Tree {
	if !p.taken("LAMBDA") {
		return p.expression()
	}
	names := p.names()
	p.take(":")
	return &exprs.Tree{Kind: api.ExprLambda, Names: names, Kids: []*exprs.Tree{p.expression()}}
}

// tuple reads what is behind "<<".
func (p *parser) tuple() *exprs.Tree {
	t := &exprs.Tree{Kind: api.ExprTuple}
	if p.taken(">>") {
		return t
	}
	t.Kids = p.expressions()
	if len(t.Kids) == 1 && p.taken(">>_") {
		v := p.subscript()
		return &exprs.Tree{Kind: api.ExprAngle, Kids: []*exprs.Tree{t.Kids[0], v}}
	}
	p.take(">>")
	return t
}

// subscript reads what stands behind "_".
func (p *parser) subscript() *exprs.Tree {
	switch {
	case p.taken("("):
		t := p.expression()
		p.take(")")
		return t
	case p.taken("<<"):
		t := &exprs.Tree{Kind: api.ExprTuple}
		if !p.is(">>") {
			t.Kids = p.expressions()
		}
		p.take(">>")
		return t
	}
	return exprs.NameTree(p.name())
}

// set reads what is behind "{"; a filter is tried first.
func (p *parser) set() *exprs.Tree {
	if p.taken("}") {
		return &exprs.Tree{Kind: api.ExprSet}
	}
	start := p.at
	if p.isName() && p.textAt(1) == `\in` {
		name := p.name()
		p.at++
		set := p.expression()
		if p.taken(":") {
			condition := p.expression()
			p.take("}")
			return &exprs.Tree{Kind: api.ExprFilter, Names: []string{name}, Kids: []*exprs.Tree{set, condition}}
		}
		p.at = start
	}
	l := p.expressions()
	if len(l) == 1 && p.taken(":") {
		names, sets := p.bounds()
		p.take("}")
		return &exprs.Tree{Kind: api.ExprMap, Names: names, Kids: append(sets, l[0])}
	}
	p.take("}")
	return &exprs.Tree{Kind: api.ExprSet, Kids: l}
}

// bracketed reads what is behind "[".
func (p *parser) bracketed() *exprs.Tree {
	if p.isName() {
		switch p.textAt(1) {
		case "|->":
			return p.record(api.ExprRecord, "|->")
		case ":":
			return p.record(api.ExprRecords, ":")
		case ",", `\in`:
			if p.boundsAhead() {
				names, sets := p.bounds()
				p.take("|->")
				t := &exprs.Tree{Kind: api.ExprFunc, Names: names, Kids: append(sets, p.expression())}
				p.take("]")
				return t
			}
		}
	}
	first := p.expression()
	switch {
	case p.taken("->"):
		t := &exprs.Tree{Kind: api.ExprFuncs, Kids: []*exprs.Tree{first, p.expression()}}
		p.take("]")
		return t
	case p.taken("EXCEPT"):
		t := p.change(first)
		for p.taken(",") {
			t = p.change(t)
		}
		p.take("]")
		return t
	}
	p.take("]_")
	return &exprs.Tree{Kind: api.ExprBox, Kids: []*exprs.Tree{first, p.subscript()}}
}

// record reads names with what they have.
func (p *parser) record(kind int, sign string) *exprs.Tree {
	t := &exprs.Tree{Kind: kind}
	for {
		t.Names = append(t.Names, p.name())
		p.take(sign)
		t.Kids = append(t.Kids, p.expression())
		if !p.taken(",") {
			p.take("]")
			return t
		}
	}
}

// change reads one change of an EXCEPT; what is deeper is an EXCEPT of the old item.
func (p *parser) change(f *exprs.Tree) *exprs.Tree {
	p.take("!")
	var path []*exprs.Tree
	for len(path) == 0 || p.is("[", ".") {
		if p.taken(".") {
			path = append(path, &exprs.Tree{Kind: api.ExprString, Text: p.name()})
			continue
		}
		p.take("[")
		l := p.expressions()
		p.take("]")
		if len(l) > 1 {
			path = append(path, &exprs.Tree{Kind: api.ExprTuple, Kids: l})
		} else {
			path = append(path, l[0])
		}
	}
	p.take("=")
	item := p.expression()
	for len(path) > 1 {
		last := len(path) - 1
		item = &exprs.Tree{Kind: api.ExprExcept, Kids: []*exprs.Tree{{Kind: api.ExprOld}, path[last], item}}
		path = path[:last]
	}
	return &exprs.Tree{Kind: api.ExprExcept, Kids: []*exprs.Tree{f, path[0], item}}
}

// fairness reads what is behind WF_ or SF_.
func (p *parser) fairness(kind int) *exprs.Tree {
	v := p.subscript()
	p.take("(")
	t := &exprs.Tree{Kind: kind, Kids: []*exprs.Tree{p.expression(), v}}
	p.take(")")
	return t
}
