package ptl

import (
	"stutter/api"
	"stutter/lasso"
)

// tree is a node of a formula with its operands.
type tree struct {
	kind, n int
	kids    []*tree
}

func grow(f api.Formula) *tree {
	var all []*tree
	for _, n := range f {
		t := &tree{kind: n.Kind, n: n.N}
		for _, a := range n.Args {
			t.kids = append(t.kids, all[a])
		}
		all = append(all, t)
	}
	return all[len(f)-1]
}

func (t *tree) flat() api.Formula {
	var out api.Formula
	t.addTo(&out)
	return out
}

func (t *tree) addTo(out *api.Formula) int {
	n := api.FormulaNode{Kind: t.kind, N: t.n}
	for _, k := range t.kids {
		at := k.addTo(out)
		n.Args = append(n.Args, at)
	}
	*out = append(*out, n)
	return len(*out) - 1
}

func of(kind int, kids ...*tree) *tree { return &tree{kind: kind, kids: kids} }

// expanded has no leads left.
func (t *tree) expanded() *tree {
	out := &tree{kind: t.kind, n: t.n}
	for _, k := range t.kids {
		out.kids = append(out.kids, k.expanded())
	}
	if t.kind == api.FormulaLeads {
		return leads(out.kids[0], out.kids[1])
	}
	return out
}

func leads(f, g *tree) *tree {
	return of(api.FormulaAlways, of(api.FormulaImplies, f, of(api.FormulaSometime, g)))
}

// below returns what is below unary nodes of some kinds, from the outside to the inside; nil if they are others.
func (t *tree) below(kinds ...int) *tree {
	for _, k := range kinds {
		if t.kind != k {
			return nil
		}
		t = t.kids[0]
	}
	return t
}

// unary is the kinds of nodes that stand within one another on the left and on the right side of a rule.
type unary struct{ left, right []int }

func unaryRule(rule int) unary {
	const not, always, some = api.FormulaNot, api.FormulaAlways, api.FormulaSometime
	switch rule {
	case api.PtlDoubleNot:
		return unary{[]int{not, not}, nil}
	case api.PtlTwiceAlways:
		return unary{[]int{always, always}, []int{always}}
	case api.PtlTwiceSome:
		return unary{[]int{some, some}, []int{some}}
	case api.PtlNotAlways:
		return unary{[]int{not, always}, []int{some, not}}
	case api.PtlNotSome:
		return unary{[]int{not, some}, []int{always, not}}
	case api.PtlAlwaysSome:
		return unary{[]int{some, always, some}, []int{always, some}}
	}
	return unary{[]int{always, some, always}, []int{some, always}}
}

// rewritten returns the right side of a rule whose left side a tree is, or nil.
func (t *tree) rewritten(rule int) *tree {
	switch rule {
	case api.PtlLeads:
		if t.kind == api.FormulaLeads {
			return leads(t.kids[0], t.kids[1])
		}
		return nil
	case api.PtlAlwaysAnd:
		return t.merged(api.FormulaAnd, api.FormulaAlways)
	case api.PtlSomeOr:
		return t.merged(api.FormulaOr, api.FormulaSometime)
	case api.PtlTrueUntil:
		if t.kind == api.FormulaUntil && t.kids[0].kind == api.FormulaTrue {
			return of(api.FormulaSometime, t.kids[1])
		}
		return nil
	}
	u := unaryRule(rule)
	out := t.below(u.left...)
	if out == nil {
		return nil
	}
	for i := len(u.right) - 1; i >= 0; i-- {
		out = of(u.right[i], out)
	}
	return out
}

// merged moves a unary node that both operands have to the outside.
func (t *tree) merged(kind, over int) *tree {
	if t.kind != kind || t.kids[0].kind != over || t.kids[1].kind != over {
		return nil
	}
	return of(over, of(kind, t.kids[0].kids[0], t.kids[1].kids[0]))
}

// nodes returns all nodes in their order.
func (t *tree) nodes() []*tree {
	var out []*tree
	for _, k := range t.kids {
		out = append(out, k.nodes()...)
	}
	return append(out, t)
}

// Rewritten returns a formula after rules, and how many there are, or the first one that cannot be applied.
func Rewritten(f api.Formula, rules []api.PtlRewrite) (api.Formula, int, api.Errno) {
	if _, err := lasso.CheckFormula(f); err != api.OK {
		return nil, 0, err
	}
	if len(rules) > api.MaxItems {
		return nil, 0, api.ErrLarge
	}
	t := grow(f)
	for i, r := range rules {
		nodes := t.nodes()
		if r.Rule < 0 || r.Rule >= api.PtlRewrites {
			return nil, i, api.ErrKind
		}
		if r.Node < 0 || r.Node >= len(nodes) {
			return nil, i, api.ErrMissing
		}
		by := nodes[r.Node].rewritten(r.Rule)
		if by == nil {
			return nil, i, api.ErrRefused
		}
		*nodes[r.Node] = *by
		if len(t.nodes()) > api.MaxFormulaNodes {
			return nil, i, api.ErrLarge
		}
	}
	return t.flat(), len(rules), api.OK
}

// Simplified returns a formula with no more nodes, and the rules that lead there; each of them leaves out a node, so that there are not too many.
func Simplified(f api.Formula) (api.Formula, []api.PtlRewrite, api.Errno) {
	if _, err := lasso.CheckFormula(f); err != api.OK {
		return nil, nil, err
	}
	t := grow(f)
	var rules []api.PtlRewrite
	for {
		r, found := t.shorter()
		if !found {
			return t.flat(), rules, api.OK
		}
		at := t.nodes()[r.Node]
		*at = *at.rewritten(r.Rule)
		rules = append(rules, r)
	}
}

// shorter returns the first rule that leaves out a node.
func (t *tree) shorter() (api.PtlRewrite, bool) {
	for i, n := range t.nodes() {
		for _, rule := range []int{api.PtlDoubleNot, api.PtlTwiceAlways, api.PtlTwiceSome, api.PtlAlwaysSome, api.PtlSomeAlways, api.PtlAlwaysAnd, api.PtlSomeOr, api.PtlTrueUntil} {
			if n.rewritten(rule) != nil {
				return api.PtlRewrite{Rule: rule, Node: i}, true
			}
		}
	}
	return api.PtlRewrite{}, false
}
