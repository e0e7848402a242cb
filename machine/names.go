package machine

import (
	"stutter/api"
	"stutter/exprs"
	"stutter/tree"
)

// meaning is what a name stands for: a value, a variable, or an operator.
type meaning interface {
	// valueAt is the value of a node that is the name alone.
	valueAt(m *Machine, t *exprs.Tree, e scene) api.Value
}

// given is a value.
type given struct{ value *api.Value }

func (g given) valueAt(*Machine, *exprs.Tree, scene) api.Value { return *g.value }

// variable is the number of a variable; its value is that in the state that is asked.
type variable int

func (v variable) valueAt(m *Machine, t *exprs.Tree, e scene) api.Value {
	x := m.states[0][v]
	if m.primed {
		x = m.states[1][v]
	}
	if x == nil {
		fail(t, e, api.ErrUnassigned)
	}
	return *x
}

// valueAt fails: an operator has a value only where it is gone on to, with its operands.
func (o *operator) valueAt(_ *Machine, t *exprs.Tree, e scene) api.Value {
	fail(t, e, api.ErrArity)
	return api.Value{}
}

// lookup finds what a name stands for; nil if nothing.
func (m *Machine) lookup(text string, e scene) meaning {
	for n := e.names; n != nil; n = n.next {
		if n.text == text {
			return n.is
		}
	}
	return m.known[text]
}

// operatorOf is the operator that a name stands for; nil if it stands for something else, or for nothing.
func (m *Machine) operatorOf(text string, e scene) *operator {
	o, _ := m.lookup(text, e).(*operator)
	return o
}

// variableOf is the number of the variable that a node is, or None.
func (m *Machine) variableOf(t *exprs.Tree, e scene) int {
	if v, is := m.lookup(t.Text, e).(variable); is && t.Kind == api.ExprName {
		return int(v)
	}
	return api.None
}

// isNamed says whether a node is a name, or a name with operands.
func isNamed(t *exprs.Tree) bool {
	if t.Kind == api.ExprName {
		return true
	}
	_, err := tree.OperatorOf(t.Text)
	return t.Kind == api.ExprApply && err != api.OK
}

// operatorAt returns the operator that a node stands for, with as many operands as it takes.
func (m *Machine) operatorAt(t *exprs.Tree, e scene) *operator {
	if !isNamed(t) {
		return nil
	}
	o := m.operatorOf(t.Text, e)
	if o == nil || len(t.Kids) > 0 && o.argument() {
		return nil
	}
	if len(o.params) != len(t.Kids) {
		fail(t, e, api.ErrArity)
	}
	return o
}

// argument says whether an operator is an argument that takes none itself.
func (o *operator) argument() bool { return o.arities == nil && !o.atUse }

// enter is the scene of an operator's body, with operands for its parameters.
func (m *Machine) enter(o *operator, t *exprs.Tree, e scene) scene {
	inner := scene{o.names, o.place}
	if o.atUse {
		inner.place = placeOf(t, e)
	}
	for i, k := range t.Kids {
		arity := 0
		if i < len(o.arities) {
			arity = o.arities[i]
		}
		inner.names = &name{o.params[i], m.passed(k, e, arity, t), inner.names}
	}
	return inner
}

// passed is an operand as it is given for a parameter that takes so many arguments.
func (m *Machine) passed(k *exprs.Tree, e scene, arity int, use *exprs.Tree) *operator {
	if arity == 0 {
		return &operator{body: k, names: e.names, place: e.place}
	}
	if k.Kind == api.ExprLambda && len(k.Names) == arity {
		return &operator{params: k.Names, arities: make([]int, arity), body: k.Kids[0], names: e.names, place: e.place}
	}
	if k.Kind == api.ExprName {
		if o := m.operatorOf(k.Text, e); o != nil && len(o.params) == arity {
			out := *o
			if out.atUse {
				out.atUse, out.place = false, placeOf(k, e)
			}
			return &out
		}
	}
	fail(use, e, api.ErrArity)
	return nil
}

// let adds the definition of a LET.
func let(t *exprs.Tree, e scene) scene {
	op := &operator{params: t.Names[1:], arities: make([]int, len(t.Names)-1), body: t.Kids[0], names: e.names, place: e.place}
	n := &name{t.Names[0], op, e.names}
	if t.N == 1 {
		op.names = n
	}
	return scene{n, e.place}
}

// follow goes on to the part that a node stands for, if it does so: what an operator is, the branch of an IF or a CASE, what a LET is.
func follow[T any](m *Machine, t *exprs.Tree, e scene, run func(*exprs.Tree, scene) T) (T, bool) {
	var none T
	switch t.Kind {
	case api.ExprIf:
		if m.truth(t.Kids[0], e) {
			return run(t.Kids[1], e), true
		}
		return run(t.Kids[2], e), true
	case api.ExprCase:
		for i := 0; i+1 < len(t.Kids); i += 2 {
			if m.truth(t.Kids[i], e) {
				return run(t.Kids[i+1], e), true
			}
		}
		if len(t.Kids)%2 == 0 {
			fail(t, e, api.ErrSilly)
		}
		return run(t.Kids[len(t.Kids)-1], e), true
	case api.ExprLet:
		return run(t.Kids[1], let(t, e)), true
	}
	return followName(m, t, e, run, none)
}

// followName goes on to what an operator is.
func followName[T any](m *Machine, t *exprs.Tree, e scene, run func(*exprs.Tree, scene) T, none T) (T, bool) {
	o := m.operatorAt(t, e)
	if o == nil {
		return none, false
	}
	inner := m.enter(o, t, e)
	if m.depth >= api.MaxEvalDepth {
		fail(t, e, api.ErrFuel)
	}
	m.depth++
	out := run(o.body, inner)
	m.depth--
	return out, true
}
