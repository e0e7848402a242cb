package machine

import (
	"slices"

	"stutter/api"
	"stutter/exprs"
	"stutter/lazy"
	"stutter/values"
)

// maxGiven is how many assignments are given when ErrFuel is permitted.
const maxGiven = 1000000

// needsTwo fails at a node where a second state may not be asked.
func (m *Machine) needsTwo(t *exprs.Tree, e scene) {
	if m.mode != TwoStates || m.primed {
		fail(t, e, api.ErrLevel)
	}
}

// overStates evaluates an operator that needs states.
func (m *Machine) overStates(t *exprs.Tree, e scene) api.Value {
	if t.Text == "ENABLED" {
		if m.mode != OneState && m.mode != TwoStates || m.primed {
			fail(t, e, api.ErrLevel)
		}
		return values.Bool(len(m.after(t.Kids[0], e, m.states[0])) > 0)
	}
	m.needsTwo(t, e)
	switch t.Text {
	case "'":
		return m.inSecond(t.Kids[0], e)
	case "UNCHANGED":
		return values.Bool(m.unchanged(t.Kids[0], e))
	}
	second := m.states[1]
	for _, x := range m.after(t.Kids[0], e, m.states[0]) {
		holds := false
		m.within(pointers(x, len(x)), second, func() { holds = m.truth(t.Kids[1], e) })
		if holds {
			return values.Bool(true)
		}
	}
	return values.Bool(false)
}

// inSecond is the value of a node in the second state.
func (m *Machine) inSecond(t *exprs.Tree, e scene) api.Value {
	m.primed = true
	v := m.value(t, e)
	m.primed = false
	return v
}

// unchanged says whether a node has the same value in both states.
func (m *Machine) unchanged(t *exprs.Tree, e scene) bool {
	then := m.inSecond(t, e)
	return values.Same(then, m.value(t, e))
}

// subscripted evaluates [A]_v or <<A>>_v.
func (m *Machine) subscripted(t *exprs.Tree, e scene) api.Value {
	m.needsTwo(t, e)
	a := m.truth(t.Kids[0], e)
	if a == (t.Kind == api.ExprBox) {
		return values.Bool(a)
	}
	return values.Bool(m.unchanged(t.Kids[1], e) == (t.Kind == api.ExprBox))
}

// within runs something over other states.
func (m *Machine) within(first, second []*api.Value, run func()) {
	states, mode, primed := m.states, m.mode, m.primed
	m.states, m.mode, m.primed = [2][]*api.Value{first, second}, TwoStates, false
	run()
	m.states, m.mode, m.primed = states, mode, primed
}

// after is the successors of a state by an action, ascending, each once.
func (m *Machine) after(t *exprs.Tree, e scene, first []*api.Value) []api.State {
	var out []api.State
	m.within(first, pointers(nil, len(first)), func() { out = m.gathered(t, e, &m.states[1]) })
	return out
}

// gathered goes through a node, and gathers the states that are assigned.
func (m *Machine) gathered(t *exprs.Tree, e scene, target *[]*api.Value) []api.State {
	var out []api.State
	m.through(t, e, func() {
		x := make(api.State, len(*target))
		for i, v := range *target {
			if v == nil {
				fail(t, e, api.ErrUnassigned)
			}
			x[i] = *v
		}
		m.given++
		if m.given > maxGiven && m.Steps > api.MaxActionSteps {
			fail(t, e, api.ErrFuel)
		}
		if at, is := slices.BinarySearchFunc(out, x, values.CompareStates); !is {
			out = slices.Insert(out, at, x)
		}
	})
	return out
}

// After is the successors of the first state by an action.
func (m *Machine) After(e api.Expr) []api.State {
	return m.after(exprs.Grow(e), scene{place: api.None}, m.states[0])
}

// Begin is the states that Init assigns.
func (m *Machine) Begin(e api.Expr) []api.State {
	return m.gathered(exprs.Grow(e), scene{place: api.None}, &m.states[0])
}

// assigns returns the variable that a node assigns, which is not assigned yet, or None.
func (m *Machine) assigns(t *exprs.Tree, e scene) int {
	side := 0
	if m.mode == TwoStates {
		if t.Kind != api.ExprApply || t.Text != "'" {
			return api.None
		}
		t, side = t.Kids[0], 1
	}
	if t.Kind != api.ExprName {
		return api.None
	}
	x, is := m.lookup(t.Text, e)
	if !is || x.variable == api.None || m.states[side][x.variable] != nil {
		return api.None
	}
	return x.variable
}

// assigned goes on with a variable assigned.
func (m *Machine) assigned(variable int, v api.Value, more func()) {
	side := 0
	if m.mode == TwoStates {
		side = 1
	}
	target := m.states[side]
	target[variable] = &v
	more()
	target[variable] = nil
}

// through goes through a node, and goes on with each list of assignments.
func (m *Machine) through(t *exprs.Tree, e scene, more func()) {
	m.step(t, e)
	switch t.Kind {
	case api.ExprSome:
		m.eachChoice(t, e, func(inner scene, _ []api.Value) bool {
			m.through(t.Kids[len(t.Kids)-1], inner, more)
			return true
		})
		return
	case api.ExprBox, api.ExprAngle:
		m.throughSubscripted(t, e, more)
		return
	case api.ExprApply:
		if m.throughApplied(t, e, more) {
			return
		}
	}
	if m.followed(t, e, m.through, more) {
		return
	}
	v := m.valueOf(t, e)
	if v.Kind != api.ValueBool {
		fail(t, e, api.ErrType)
	}
	if v.N == 1 {
		more()
	}
}

// followed goes on to what a node stands for; what comes behind it is as deep as the node.
func (m *Machine) followed(t *exprs.Tree, e scene, through func(*exprs.Tree, scene, func()), more func()) bool {
	depth := m.depth
	_, is := follow(m, t, e, func(body *exprs.Tree, inner scene) bool {
		through(body, inner, func() {
			before := m.depth
			m.depth = depth
			more()
			m.depth = before
		})
		return true
	})
	return is
}

// throughApplied goes through an operator that gives assignments.
func (m *Machine) throughApplied(t *exprs.Tree, e scene, more func()) bool {
	switch t.Text {
	case `/\`:
		m.through(t.Kids[0], e, func() { m.through(t.Kids[1], e, more) })
	case `\/`:
		m.through(t.Kids[0], e, more)
		m.through(t.Kids[1], e, more)
	case "=":
		x := m.assigns(t.Kids[0], e)
		if x == api.None {
			return false
		}
		m.assigned(x, m.value(t.Kids[1], e), more)
	case `\in`:
		x := m.assigns(t.Kids[0], e)
		if x == api.None {
			return false
		}
		m.throughMembers(x, t.Kids[1], e, more)
	case "UNCHANGED":
		m.needsTwo(t, e)
		m.throughUnchanged(t.Kids[0], e, more)
	case `\cdot`:
		m.needsTwo(t, e)
		m.throughBoth(t, e, more)
	default:
		return false
	}
	return true
}

// throughMembers assigns each member of a set. Of more than there are steps no use is made: behind them something would be evaluated, or they are too many.
func (m *Machine) throughMembers(x int, t *exprs.Tree, e scene, more func()) {
	l, n := m.counted(t, e)
	for at := range min(n, api.MaxEvalSteps+1) {
		v, err := lazy.MemberAt(l, at)
		check(t, e, err)
		m.assigned(x, v, more)
	}
}

// throughUnchanged goes through UNCHANGED of a node.
func (m *Machine) throughUnchanged(t *exprs.Tree, e scene, more func()) {
	if t.Kind == api.ExprName {
		if x, is := m.lookup(t.Text, e); is && x.variable != api.None && m.states[1][x.variable] == nil {
			m.step(t, e)
			m.assigned(x.variable, m.variable(x.variable, t, e), more)
			return
		}
	}
	if t.Kind == api.ExprTuple {
		m.step(t, e)
		m.throughItems(t.Kids, e, more)
		return
	}
	if m.operatorAt(t, e) != nil {
		m.step(t, e)
		m.followed(t, e, m.throughUnchanged, more)
		return
	}
	if m.unchanged(t, e) {
		more()
	}
}

// throughItems goes through UNCHANGED of nodes, one after the other.
func (m *Machine) throughItems(l []*exprs.Tree, e scene, more func()) {
	if len(l) == 0 {
		more()
		return
	}
	m.throughUnchanged(l[0], e, func() { m.throughItems(l[1:], e, more) })
}

// throughSubscripted goes through [A]_v or <<A>>_v.
func (m *Machine) throughSubscripted(t *exprs.Tree, e scene, more func()) {
	m.needsTwo(t, e)
	if t.Kind == api.ExprBox {
		m.through(t.Kids[0], e, more)
		m.throughUnchanged(t.Kids[1], e, more)
		return
	}
	m.through(t.Kids[0], e, func() {
		if !m.unchanged(t.Kids[1], e) {
			more()
		}
	})
}

// throughBoth goes through A \cdot B.
func (m *Machine) throughBoth(t *exprs.Tree, e scene, more func()) {
	target := m.states[1]
	before := slices.Clone(target)
	for _, between := range m.after(t.Kids[0], e, m.states[0]) {
		for _, x := range m.after(t.Kids[1], e, pointers(between, len(between))) {
			fits := true
			for i, v := range before {
				fits = fits && (v == nil || values.Same(*v, x[i]))
			}
			if fits {
				copy(target, pointers(x, len(x)))
				more()
				copy(target, before)
			}
		}
	}
}
