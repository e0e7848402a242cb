package translate

import (
	"slices"

	"stutter/api"
	"stutter/statements"
)

// A step is made of actions one after the other (A \cdot B): each statement sees what those before it did, as the interpreter does.

// finish is the end of a step at a label.
func (s *system) finish(p *part, label string) api.Expr {
	return s.unchanged([]string{"pc"}, []api.Expr{s.set(p, "pc", text(label))})
}

// labelOf is the label that comes before a node, or at the end of its part.
func labelOf(p *part, n *statements.Node) string {
	if n == nil {
		return p.end
	}
	return n.Label
}

// to is what comes from a node on, unless a label comes.
func (s *system) to(p *part, n *statements.Node) api.Expr {
	if label := labelOf(p, n); label != "" {
		return s.finish(p, label)
	}
	return s.step(p, n)
}

// block is what comes in a block; an empty one goes on behind its statement.
func (s *system) block(p *part, n *statements.Node, block int) api.Expr {
	if l := n.Inner[block]; len(l) > 0 {
		return s.to(p, l[0])
	}
	return s.to(p, n.After)
}

// step is the action of a statement, and of what comes behind it.
func (s *system) step(p *part, n *statements.Node) api.Expr {
	if e, is := s.made[n]; is {
		return e
	}
	if s.large {
		return name("FALSE")
	}
	e := s.statement(p, n)
	if n.Label == "" && len(e) > s.most {
		e = s.defined(p, e)
	}
	s.large = s.large || len(e) > maxParts
	s.made[n] = e
	return e
}

// defined makes a definition of an action; what is bound around it are its parameters. If these are too many, it stays.
func (s *system) defined(p *part, e api.Expr) api.Expr {
	bound := []string{"self"}
	eachStatement(p.Body, func(x api.PlusStmt) {
		if x.Kind == api.PlusWith {
			bound = append(bound, x.Name)
		}
	})
	d := api.Def{Body: e}
	var uses []api.Expr
	for _, n := range freeIn(e) {
		if slices.Contains(bound, n) {
			d.Params, d.Arities, uses = append(d.Params, n), append(d.Arities, 0), append(uses, name(n))
		}
	}
	if len(uses) > api.MaxParams {
		return e
	}
	d.Name = s.fresh("Step")
	s.more = append(s.more, d)
	if len(uses) == 0 {
		return name(d.Name)
	}
	return apply(d.Name, uses...)
}

func (s *system) statement(p *part, n *statements.Node) api.Expr {
	value := func(i int) api.Expr { return s.own(p, n.Exprs[i]) }
	switch n.Kind {
	case api.PlusAwait, api.PlusAssert:
		return apply(`/\`, value(0), s.to(p, n.After))
	case api.PlusAssign:
		return apply(`\cdot`, s.assign(p, n), s.to(p, n.After))
	case api.PlusIf:
		return of(api.ExprIf, value(0), s.block(p, n, 0), s.block(p, n, 1))
	case api.PlusWhile:
		return of(api.ExprIf, value(0), s.block(p, n, 0), s.to(p, n.After))
	case api.PlusEither:
		var ways []api.Expr
		for i := range n.Inner {
			ways = append(ways, s.block(p, n, i))
		}
		return joined(`\/`, ways...)
	case api.PlusWith:
		set := value(0)
		if !n.In {
			set = of(api.ExprSet, set)
		}
		return bind(api.ExprSome, n.Name, set, s.block(p, n, 0))
	case api.PlusGoto:
		return s.finish(p, n.Name)
	case api.PlusCall:
		return s.call(p, n)
	case api.PlusReturn:
		return s.back(p)
	}
	return s.to(p, n.After)
}

// assign is an assignment: all expressions are evaluated before it.
func (s *system) assign(p *part, n *statements.Node) api.Expr {
	values := map[string]api.Expr{}
	var order []string
	for i, t := range n.Targets {
		v := s.own(p, n.Exprs[i])
		old, twice := values[t.Name]
		if !twice {
			old = s.get(p, t.Name)
			order = append(order, t.Name)
		}
		switch {
		case t.Field != "":
			v = except(old, text(t.Field), v)
		case len(t.Index) == 1:
			v = except(old, s.own(p, t.Index[0]), v)
		case len(t.Index) > 1:
			var keys []api.Expr
			for _, e := range t.Index {
				keys = append(keys, s.own(p, e))
			}
			v = except(old, of(api.ExprTuple, keys...), v)
		}
		values[t.Name] = v
	}
	var conjuncts []api.Expr
	for _, variable := range order {
		conjuncts = append(conjuncts, s.set(p, variable, values[variable]))
	}
	return s.unchanged(order, conjuncts)
}

// call begins a procedure: the frame is put on the stack, arguments are given, and then its variables begin one after the other.
func (s *system) call(p *part, n *statements.Node) api.Expr {
	q := s.parts[slices.IndexFunc(s.parts, func(q *part) bool { return q.procedure && q.Name == n.Name })]
	frame := api.Node{Kind: api.ExprRecord, Names: []string{"pc", "procedure"}}
	items := []api.Expr{text(labelOf(p, n.After)), text(q.Name)}
	for _, variable := range q.frame() {
		frame.Names = append(frame.Names, variable)
		items = append(items, s.get(q, variable))
	}
	stack := apply(`\o`, of(api.ExprTuple, record(frame, items)), s.get(q, "stack"))
	changed := []string{"stack"}
	conjuncts := []api.Expr{s.set(q, "stack", stack)}
	for i, variable := range q.params {
		changed = append(changed, variable)
		conjuncts = append(conjuncts, s.set(q, variable, s.own(p, n.Exprs[i])))
	}
	steps := []api.Expr{s.unchanged(changed, conjuncts)}
	for _, v := range q.Vars {
		steps = append(steps, s.unchanged([]string{v.Name}, []api.Expr{s.set(q, v.Name, s.beginning(q, v))}))
	}
	steps = append(steps, s.finish(q, q.labels[0]))
	return joined(`\cdot`, steps...)
}

// beginning is the value with which a variable begins.
func (s *system) beginning(p *part, v api.PlusVar) api.Expr {
	if v.Begins == api.PlusNone {
		return name(none)
	}
	return s.own(p, v.Value)
}

// back returns from a procedure.
func (s *system) back(p *part) api.Expr {
	stack := s.get(p, "stack")
	top := func(field string) api.Expr {
		return fieldOf(of(api.ExprCall, stack, number(1)), field)
	}
	next := func(i string) api.Expr { return apply("+", name(i), number(1)) }
	domain := apply("DOMAIN", stack)
	keys := bind(api.ExprFilter, "i", domain, apply(`\in`, next("i"), domain))
	rest := bind(api.ExprFunc, "i", keys, of(api.ExprCall, stack, next("i")))
	changed := []string{"stack", "pc"}
	conjuncts := []api.Expr{apply("=", top("procedure"), text(p.Name)), s.set(p, "stack", rest), s.set(p, "pc", top("pc"))}
	for _, variable := range p.frame() {
		changed = append(changed, variable)
		conjuncts = append(conjuncts, s.set(p, variable, top(variable)))
	}
	return s.unchanged(changed, conjuncts)
}
