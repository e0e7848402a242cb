package scope

import (
	"slices"

	"stutter/api"
	"stutter/exprs"
	"stutter/tree"
	"stutter/words"
)

// local is the names that are bound at a node, the innermost one first.
type local struct {
	api.ScopeName
	next *local
}

// bind adds a bound name.
func (l *local) bind(name string, kind int, params []int) *local {
	return &local{api.ScopeName{Name: name, Kind: kind, Params: params}, l}
}

// lookup returns what a name means at a node.
func (n *names) lookup(name string, l *local) (api.ScopeName, bool) {
	for ; l != nil; l = l.next {
		if l.Name == name {
			return l.ScopeName, true
		}
	}
	s, is := n.visible[name]
	return s, is
}

// checkExpressions looks at the expressions of a unit, one after the other.
func (n *names) checkExpressions(u api.Unit, used map[string]api.ScopeName) api.Errno {
	var params *local
	for i, name := range u.Def.Params {
		params = params.bind(name, api.ScopeParameter, make([]int, u.Def.Arities[i]))
	}
	for _, name := range u.Instance.Params {
		params = params.bind(name, api.ScopeParameter, nil)
	}
	for i, e := range expressionsOf(u) {
		arity := 0
		if u.Kind == api.UnitInstance {
			if g := used[u.Instance.Names[i]]; isDeclared(g) {
				arity = len(g.Params)
			}
		}
		if err := n.checkExpression(e, params, arity); err != api.OK {
			return err
		}
	}
	return api.OK
}

// expressionsOf are the expressions of a unit.
func expressionsOf(u api.Unit) []api.Expr {
	switch u.Kind {
	case api.UnitDefinition:
		return []api.Expr{u.Def.Body}
	case api.UnitAssume, api.UnitTheorem:
		return []api.Expr{u.Expr}
	case api.UnitInstance:
		return u.Instance.With
	}
	return nil
}

// usage is an expression whose names are checked: what is bound at each node, and how many arguments its root is to take.
type usage struct {
	*names
	e       api.Expr
	bound   []*local
	parents []int
	arity   int
}

// checkExpression looks at an expression, node by node.
func (n *names) checkExpression(e api.Expr, params *local, arity int) api.Errno {
	x := &usage{names: n, e: e, bound: make([]*local, len(e)), parents: exprs.Parents(e), arity: arity}
	x.spread(len(e)-1, params)
	steps := []func(node int) api.Errno{x.checkBinding, x.checkName, x.checkApplied}
	for i := range e {
		for _, step := range steps {
			if err := step(i); err != api.OK {
				return err
			}
		}
	}
	return api.OK
}

// spread tells a node and those below it what is bound there.
func (x *usage) spread(node int, l *local) {
	x.bound[node] = l
	n := x.e[node]
	for i, a := range n.Args {
		inner := l
		for _, name := range exprs.Binds(n, i) {
			var params []int
			if n.Kind == api.ExprLet && name == n.Names[0] {
				params = make([]int, len(n.Names)-1)
			}
			inner = inner.bind(name, api.ScopeBound, params)
		}
		x.spread(a, inner)
	}
}

// checkBinding says whether what a node binds is not visible there.
func (x *usage) checkBinding(node int) api.Errno {
	n := x.e[node]
	if n.Kind == api.ExprRecord || n.Kind == api.ExprRecords {
		return api.OK
	}
	for _, name := range n.Names {
		if _, is := x.lookup(name, x.bound[node]); is {
			return api.ErrExists
		}
	}
	return api.OK
}

// wanted is how many arguments what stands at a node is to take.
func (x *usage) wanted(node int) int {
	p := x.parents[node]
	if p == api.None {
		return x.arity
	}
	if !appliesName(x.e[p]) {
		return 0
	}
	s, _ := x.lookup(x.e[p].Text, x.bound[p])
	if i := slices.Index(x.e[p].Args, node); i < len(s.Params) {
		return s.Params[i]
	}
	return 0
}

func appliesName(n api.Node) bool {
	_, err := tree.OperatorOf(n.Text)
	return n.Kind == api.ExprApply && err != api.OK
}

// isNamed says whether a node is a name that has a meaning by what is visible.
func isNamed(n api.Node) bool { return n.Kind == api.ExprName && !words.IsBuiltIn(n.Text) }

// checkName looks at a name that stands for itself.
func (x *usage) checkName(node int) api.Errno {
	n := x.e[node]
	if !isNamed(n) {
		return api.OK
	}
	s, is := x.lookup(n.Text, x.bound[node])
	if !is {
		return api.ErrMissing
	}
	if !plainParams(s.Params, x.wanted(node)) {
		return api.ErrArity
	}
	return api.OK
}

// checkApplied looks at a name with operands.
func (x *usage) checkApplied(node int) api.Errno {
	n := x.e[node]
	if !appliesName(n) {
		return api.OK
	}
	s, is := x.lookup(n.Text, x.bound[node])
	if !is {
		return api.ErrMissing
	}
	if len(s.Params) != len(n.Args) {
		return api.ErrArity
	}
	for i, a := range n.Args {
		o := x.e[a]
		lambda := o.Kind == api.ExprLambda
		fits := isNamed(o) || lambda && len(o.Names) == s.Params[i]
		if s.Params[i] > 0 && !fits || s.Params[i] == 0 && lambda {
			return api.ErrArity
		}
	}
	return api.OK
}

// checkInstance looks at what is put for names of a module.
func (n *names) checkInstance(x api.Instance, used map[string]api.ScopeName) api.Errno {
	for i, name := range x.Names {
		g := used[name]
		if !isDeclared(g) || g.Name != name {
			return api.ErrMissing
		}
		if e := x.With[i]; len(g.Params) > 0 && !isNamed(e[len(e)-1]) {
			return api.ErrArity
		}
	}
	for _, g := range sorted(used) {
		if !isDeclared(g) || slices.Contains(x.Names, g.Name) {
			continue
		}
		s, is := n.visible[g.Name]
		if slices.Contains(x.Params, g.Name) {
			s, is = api.ScopeName{}, true
		}
		if !is || !plainParams(s.Params, len(g.Params)) {
			return api.ErrUnassigned
		}
	}
	return api.OK
}
