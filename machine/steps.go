package machine

import (
	"slices"

	"stutter/api"
	"stutter/exprs"
	"stutter/lazy"
	"stutter/values"
)

// maxGiven is how many assignments are given when ErrFuel is permitted.
const maxGiven = 300000

// needsTwo fails at a node where a second state may not be asked.
func (m *Machine) needsTwo(t *exprs.Tree, e scene) {
	if m.mode != TwoStates || m.primed {
		fail(t, e, api.ErrLevel)
	}
}

// overStates evaluates an operator that needs states.
func (m *Machine) overStates(t *exprs.Tree, e scene) api.Value {
	if t.Text == "ENABLED" {
		if m.mode != OneState && m.mode != TwoStates || m.primed {
			fail(t, e, api.ErrLevel)
		}
		return values.Bool(m.enabled(t.Kids[0], e))
	}
	m.needsTwo(t, e)
	switch t.Text {
	case "'":
		return m.inSecond(t.Kids[0], e)
	case "UNCHANGED":
		return values.Bool(m.unchanged(t.Kids[0], e))
	}
	second := m.states[1]
	for _, x := range m.after(t.Kids[0], e, m.states[0], inOrder(nil)) {
		holds := false
		m.within(pointers(x, len(x)), second, func() { holds = m.truth(t.Kids[1], e) })
		if holds {
			return values.Bool(true)
		}
	}
	return values.Bool(false)
}

// enabled says whether an action has a successor of the first state; it may not have too many, as in action.EnabledIn.
func (m *Machine) enabled(t *exprs.Tree, e scene) bool {
	l := m.after(t, e, m.states[0], &gathering{most: maxTold})
	if len(l) > api.MaxSuccessors {
		fail(t, e, api.ErrLarge)
	}
	return len(l) > 0
}

// inSecond is the value of a node in the second state.
func (m *Machine) inSecond(t *exprs.Tree, e scene) api.Value {
	m.primed = true
	v := m.value(t, e)
	m.primed = false
	return v
}

// unchanged says whether a node has the same value in both states.
func (m *Machine) unchanged(t *exprs.Tree, e scene) bool {
	then := m.inSecond(t, e)
	return values.Same(then, m.value(t, e))
}

// subscripted evaluates [A]_v or <<A>>_v.
func (m *Machine) subscripted(t *exprs.Tree, e scene) api.Value {
	m.needsTwo(t, e)
	a := m.truth(t.Kids[0], e)
	if a == (t.Kind == api.ExprBox) {
		return values.Bool(a)
	}
	return values.Bool(m.unchanged(t.Kids[1], e) == (t.Kind == api.ExprBox))
}

// within runs something over other states.
func (m *Machine) within(first, second []*api.Value, run func()) {
	states, mode, primed := m.states, m.mode, m.primed
	m.states, m.mode, m.primed = [2][]*api.Value{first, second}, TwoStates, false
	run()
	m.states, m.mode, m.primed = states, mode, primed
}

// inOrder gathers successors of which use is made one after the other.
func inOrder(wanted assignment) *gathering {
	return &gathering{most: maxLists, least: true, wanted: wanted}
}

// after is the successors of a state by an action, ascending, each once, as far as they are gathered.
func (m *Machine) after(t *exprs.Tree, e scene, first []*api.Value, g *gathering) []api.State {
	var out []api.State
	m.within(first, pointers(nil, len(first)), func() { out = m.gathered(t, e, g) })
	return out
}

// gathered goes through a node, and gathers the states that are assigned; all of it has been gone through before it is asked whether all variables are assigned.
func (m *Machine) gathered(t *exprs.Tree, e scene, g *gathering) []api.State {
	m.through(t, e, g)
	if g.open {
		fail(t, e, api.ErrUnassigned)
	}
	return g.states()
}

// After is the successors of the first state by an action; of too many some.
func (m *Machine) After(e api.Expr) []api.State {
	return m.after(exprs.Grow(e), scene{place: api.None}, m.states[0], &gathering{most: maxTold})
}

// Begin is the states that Init assigns; of too many some.
func (m *Machine) Begin(e api.Expr) []api.State {
	return m.gathered(exprs.Grow(e), scene{place: api.None}, &gathering{most: maxTold})
}

// target is what is assigned: the first state, or the second one.
func (m *Machine) target() assignment {
	if m.mode == TwoStates {
		return m.states[1]
	}
	return m.states[0]
}

// assigns returns the variable that a node assigns, which is not assigned yet, or None.
func (m *Machine) assigns(t *exprs.Tree, e scene) int {
	if m.mode == TwoStates {
		if t.Kind != api.ExprApply || t.Text != "'" {
			return api.None
		}
		t = t.Kids[0]
	}
	x := m.variableOf(t, e)
	if x != api.None && m.target()[x] != nil {
		return api.None
	}
	return x
}

// give gives what is assigned now, as a list of its own; false if no list that comes behind it can be of use.
func (m *Machine) give(t *exprs.Tree, e scene, out *gathering) bool {
	m.lists++
	if m.lists > maxGiven && m.Steps > api.MaxActionSteps {
		fail(t, e, api.ErrFuel)
	}
	return out.add(m.target())
}

// assigned gives a list with a variable assigned, as give does.
func (m *Machine) assigned(x int, v api.Value, t *exprs.Tree, e scene, out *gathering) bool {
	target := m.target()
	target[x] = &v
	more := m.give(t, e, out)
	target[x] = nil
	return more
}

// behind goes through one node, and when it has given its lists through another one for each of them.
func (m *Machine) behind(first func(out *gathering), then func()) {
	g := &gathering{most: maxLists}
	first(g)
	target := m.target()
	before := slices.Clone(target)
	for _, l := range g.lists() {
		copy(target, l)
		then()
	}
	copy(target, before)
}

// through goes through a node, and gives lists of assignments.
func (m *Machine) through(t *exprs.Tree, e scene, out *gathering) {
	m.step(t, e)
	switch t.Kind {
	case api.ExprSome:
		m.eachChoice(t, e, func(inner scene, _ []api.Value) bool {
			m.through(t.Kids[len(t.Kids)-1], inner, out)
			return true
		})
		return
	case api.ExprBox, api.ExprAngle:
		m.throughSubscripted(t, e, out)
		return
	case api.ExprApply:
		if m.throughApplied(t, e, out) {
			return
		}
	}
	if m.followed(t, e, m.through, out) {
		return
	}
	v := m.valueOf(t, e)
	if v.Kind != api.ValueBool {
		fail(t, e, api.ErrType)
	}
	if v.N == 1 {
		m.give(t, e, out)
	}
}

// followed goes on to what a node stands for.
func (m *Machine) followed(t *exprs.Tree, e scene, through func(*exprs.Tree, scene, *gathering), out *gathering) bool {
	_, is := follow(m, t, e, func(body *exprs.Tree, inner scene) bool {
		through(body, inner, out)
		return true
	})
	return is
}

// throughApplied goes through an operator that gives assignments.
func (m *Machine) throughApplied(t *exprs.Tree, e scene, out *gathering) bool {
	switch t.Text {
	case `/\`:
		m.behind(func(g *gathering) { m.through(t.Kids[0], e, g) }, func() { m.through(t.Kids[1], e, out) })
	case `\/`:
		m.through(t.Kids[0], e, out)
		m.through(t.Kids[1], e, out)
	case "=":
		x := m.assigns(t.Kids[0], e)
		if x == api.None {
			return false
		}
		m.assigned(x, m.value(t.Kids[1], e), t, e, out)
	case `\in`:
		x := m.assigns(t.Kids[0], e)
		if x == api.None {
			return false
		}
		m.throughMembers(x, t.Kids[1], e, out)
	case "UNCHANGED":
		m.needsTwo(t, e)
		m.throughUnchanged(t.Kids[0], e, out)
	case `\cdot`:
		m.needsTwo(t, e)
		m.throughBoth(t, e, out)
	default:
		return false
	}
	return true
}

// throughMembers assigns each member of a set. Those behind as many as there may be steps are left out, but for one that is wanted; and when very many lists were given, those of which no use is made.
func (m *Machine) throughMembers(x int, t *exprs.Tree, e scene, out *gathering) {
	l, n := m.counted(t, e)
	for at := range min(n, maxLists) {
		v, err := lazy.MemberAt(l, at)
		check(t, e, err)
		if more := m.assigned(x, v, t, e, out); !more && m.lists > maxLists {
			break
		}
	}
	if n <= maxLists || out.wanted == nil || out.wanted[x] == nil {
		return
	}
	if is, _ := lazy.Contains(l, *out.wanted[x]); is {
		m.assigned(x, *out.wanted[x], t, e, out)
	}
}

// throughUnchanged goes through UNCHANGED of a node.
func (m *Machine) throughUnchanged(t *exprs.Tree, e scene, out *gathering) {
	if x := m.variableOf(t, e); x != api.None && m.states[1][x] == nil {
		m.step(t, e)
		m.assigned(x, *m.states[0][x], t, e, out)
		return
	}
	if t.Kind == api.ExprTuple {
		m.step(t, e)
		m.throughItems(t.Kids, t, e, out)
		return
	}
	if m.operatorAt(t, e) != nil {
		m.step(t, e)
		m.followed(t, e, m.throughUnchanged, out)
		return
	}
	if m.unchanged(t, e) {
		m.give(t, e, out)
	}
}

// throughItems goes through UNCHANGED of the items of a tuple, one after the other.
func (m *Machine) throughItems(l []*exprs.Tree, t *exprs.Tree, e scene, out *gathering) {
	if len(l) == 0 {
		m.give(t, e, out)
		return
	}
	m.behind(func(g *gathering) { m.throughUnchanged(l[0], e, g) }, func() { m.throughItems(l[1:], t, e, out) })
}

// throughSubscripted goes through [A]_v or <<A>>_v.
func (m *Machine) throughSubscripted(t *exprs.Tree, e scene, out *gathering) {
	m.needsTwo(t, e)
	if t.Kind == api.ExprBox {
		m.through(t.Kids[0], e, out)
		m.throughUnchanged(t.Kids[1], e, out)
		return
	}
	m.behind(func(g *gathering) { m.through(t.Kids[0], e, g) }, func() {
		if !m.unchanged(t.Kids[1], e) {
			m.give(t, e, out)
		}
	})
}

// throughBoth goes through A \cdot B.
func (m *Machine) throughBoth(t *exprs.Tree, e scene, out *gathering) {
	target := m.target()
	before := slices.Clone(target)
	wanted := before.or(out.wanted)
	for _, between := range m.after(t.Kids[0], e, m.states[0], inOrder(nil)) {
		for _, x := range m.after(t.Kids[1], e, pointers(between, len(between)), inOrder(wanted)) {
			copy(target, pointers(x, len(x)))
			m.give(t, e, out)
			copy(target, before)
		}
	}
}
