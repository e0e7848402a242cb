package machine

import (
	"stutter/api"
	"stutter/exprs"
	"stutter/tree"
)

// meaning is what a name stands for: a value, a variable (its number), or an operator.
type meaning struct {
	value    *api.Value
	variable int
	op       *operator
}

// lookup finds what a name stands for.
func (m *Machine) lookup(text string, e scene) (meaning, bool) {
	for n := e.names; n != nil; n = n.next {
		if n.text == text {
			return meaning{value: n.value, variable: api.None, op: n.op}, true
		}
	}
	if v, is := m.values[text]; is {
		return meaning{value: v, variable: api.None}, true
	}
	if i, is := m.vars[text]; is {
		return meaning{variable: i}, true
	}
	op, is := m.defs[text]
	return meaning{variable: api.None, op: op}, is
}

// isNamed says whether a node is a name, or a name with operands.
func isNamed(t *exprs.Tree) bool {
	if t.Kind == api.ExprName {
		return true
	}
	_, err := tree.OperatorOf(t.Text)
	return t.Kind == api.ExprApply && err != api.OK
}

// operatorAt returns the operator that a node stands for, with as many operands as it takes.
func (m *Machine) operatorAt(t *exprs.Tree, e scene) *operator {
	if !isNamed(t) {
		return nil
	}
	x, is := m.lookup(t.Text, e)
	if !is || x.op == nil {
		return nil
	}
	if len(t.Kids) > 0 && x.op.argument() {
		return nil
	}
	if len(x.op.params) != len(t.Kids) {
		fail(t, e, api.ErrArity)
	}
	return x.op
}

// argument says whether an operator is an argument that takes none itself.
func (o *operator) argument() bool { return o.arities == nil && !o.atUse }

// enter is the scene of an operator's body, with operands for its parameters.
func (m *Machine) enter(o *operator, t *exprs.Tree, e scene) scene {
	inner := scene{o.names, o.place}
	if o.atUse {
		inner.place = placeOf(t, e)
	}
	for i, k := range t.Kids {
		arity := 0
		if i < len(o.arities) {
			arity = o.arities[i]
		}
		inner.names = &name{text: o.params[i], op: m.passed(k, e, arity, t), next: inner.names}
	}
	return inner
}

// passed is an operand as it is given for a parameter that takes so many arguments.
func (m *Machine) passed(k *exprs.Tree, e scene, arity int, use *exprs.Tree) *operator {
	if arity == 0 {
		return &operator{body: k, names: e.names, place: e.place}
	}
	if k.Kind == api.ExprLambda && len(k.Names) == arity {
		return &operator{params: k.Names, arities: make([]int, arity), body: k.Kids[0], names: e.names, place: e.place}
	}
	if k.Kind == api.ExprName {
		if x, is := m.lookup(k.Text, e); is && x.op != nil && len(x.op.params) == arity {
			out := *x.op
			if out.atUse {
				out.atUse, out.place = false, placeOf(k, e)
			}
			return &out
		}
	}
	fail(use, e, api.ErrArity)
	return nil
}

// let adds the definition of a LET.
func let(t *exprs.Tree, e scene) scene {
	op := &operator{params: t.Names[1:], arities: make([]int, len(t.Names)-1), body: t.Kids[0], names: e.names, place: e.place}
	n := &name{text: t.Names[0], op: op, next: e.names}
	if t.N == 1 {
		op.names = n
	}
	return scene{n, e.place}
}

// follow goes on to the part that a node stands for, if it does so: what an operator is, the branch of an IF or a CASE, what a LET is.
func follow[T any](m *Machine, t *exprs.Tree, e scene, run func(*exprs.Tree, scene) T) (T, bool) {
	var none T
	switch t.Kind {
	case api.ExprIf:
		if m.truth(t.Kids[0], e) {
			return run(t.Kids[1], e), true
		}
		return run(t.Kids[2], e), true
	case api.ExprCase:
		for i := 0; i+1 < len(t.Kids); i += 2 {
			if m.truth(t.Kids[i], e) {
				return run(t.Kids[i+1], e), true
			}
		}
		if len(t.Kids)%2 == 0 {
			fail(t, e, api.ErrSilly)
		}
		return run(t.Kids[len(t.Kids)-1], e), true
	case api.ExprLet:
		return run(t.Kids[1], let(t, e)), true
	}
	return followName(m, t, e, run, none)
}

// followName goes on to what an operator is.
func followName[T any](m *Machine, t *exprs.Tree, e scene, run func(*exprs.Tree, scene) T, none T) (T, bool) {
	o := m.operatorAt(t, e)
	if o == nil {
		return none, false
	}
	inner := m.enter(o, t, e)
	if m.depth >= api.MaxEvalDepth {
		fail(t, e, api.ErrFuel)
	}
	m.depth++
	out := run(o.body, inner)
	m.depth--
	return out, true
}
