// Package machine evaluates expressions, over no states, over one, or over two, and goes through actions. The layers say what is valid.
package machine

import (
	"stutter/api"
	"stutter/exprs"
	"stutter/lazy"
	"stutter/values"
)

// Fault is an error, and the node where it is. The machine panics with it.
type Fault struct {
	At  int
	Err api.Errno
}

// The states that expressions may ask.
const (
	NoState  = iota // all names are values
	First           // variables that are assigned one after the other
	OneState        // a state
	TwoStates
)

// operator is an expression that a name stands for, with parameters or without: where it stands, and the place of its nodes (None: their own); that of a definition is where it is used.
type operator struct {
	params  []string
	arities []int
	body    *exprs.Tree
	names   *name
	place   int
	atUse   bool
}

// name is a name that is bound around a node, the innermost one first.
type name struct {
	text string
	is   meaning
	next *name
}

// scene is where a node stands.
type scene struct {
	names *name
	place int
}

// with is a scene with a further name that is a value.
func (e scene) with(text string, v api.Value) scene {
	return scene{&name{text, given{&v}, e.names}, e.place}
}

// Machine evaluates; it counts its steps, and how deep operators are within one another.
type Machine struct {
	known  map[string]meaning // the names that are not bound in the expression
	vars   int                // how many of them are variables
	states [2][]*api.Value
	mode   int
	primed bool
	Steps  int
	depth  int
	lists  int // lists of assignments that were given
}

// New returns a machine for names with values, variables and definitions.
func New(bindings []api.Binding, vars []string, defs []api.Def) *Machine {
	m := &Machine{known: map[string]meaning{}, vars: len(vars)}
	for _, d := range defs {
		m.known[d.Name] = &operator{params: d.Params, arities: d.Arities, body: exprs.Grow(d.Body), atUse: true}
	}
	for i, v := range vars {
		m.known[v] = variable(i)
	}
	for _, b := range bindings {
		m.known[b.Name] = given{&b.Value}
	}
	return m
}

// pointers are the values of a state; none: so many that are not assigned.
func pointers(x api.State, many int) []*api.Value {
	out := make([]*api.Value, many)
	for i := range x {
		out[i] = &x[i]
	}
	return out
}

// In puts the machine into states.
func (m *Machine) In(mode int, states ...api.State) *Machine {
	m.mode, m.primed, m.depth = mode, false, 0
	m.states = [2][]*api.Value{pointers(nil, m.vars), pointers(nil, m.vars)}
	for i, x := range states {
		m.states[i] = pointers(x, m.vars)
	}
	return m
}

// Try runs what may panic with a fault.
func Try(run func()) (at int, err api.Errno) {
	defer func() {
		switch r := recover().(type) {
		case nil:
		case Fault:
			at, err = r.At, r.Err
		default: // a function that the document lists does not panic
			at, err = 0, api.ErrForm
		}
	}()
	run()
	return 0, api.OK
}

// placeOf is the place of a node.
func placeOf(t *exprs.Tree, e scene) int {
	if e.place != api.None {
		return e.place
	}
	return t.Index
}

func fail(t *exprs.Tree, e scene, err api.Errno) {
	panic(Fault{placeOf(t, e), err})
}

// check fails at a node if there is an error.
func check(t *exprs.Tree, e scene, err api.Errno) {
	if err != api.OK {
		fail(t, e, err)
	}
}

// fit fails at a node if it makes what is no value.
func fit(t *exprs.Tree, e scene, v api.Value) api.Value {
	if !values.Fits(v) {
		fail(t, e, api.ErrLarge)
	}
	return v
}

// step counts the evaluation of a node.
func (m *Machine) step(t *exprs.Tree, e scene) {
	m.Steps++
	if m.Steps > api.MaxEvalSteps {
		fail(t, e, api.ErrFuel)
	}
}

// Value is the value of an expression.
func (m *Machine) Value(e api.Expr) api.Value { return m.value(exprs.Grow(e), scene{place: api.None}) }

// Truth is the truth value of an expression; ErrType at its root if it is none.
func (m *Machine) Truth(e api.Expr) bool { return m.truth(exprs.Grow(e), scene{place: api.None}) }

// Set is the value of an expression as a set.
func (m *Machine) Set(e api.Expr) api.Lazy { return m.set(exprs.Grow(e), scene{place: api.None}) }

// value evaluates a node as a value.
func (m *Machine) value(t *exprs.Tree, e scene) api.Value {
	m.step(t, e)
	return m.valueOf(t, e)
}

// truth evaluates a node that must be a truth value.
func (m *Machine) truth(t *exprs.Tree, e scene) bool {
	v := m.value(t, e)
	if v.Kind != api.ValueBool {
		fail(t, e, api.ErrType)
	}
	return v.N == 1
}

// number evaluates a node that must be a number.
func (m *Machine) number(t *exprs.Tree, e scene) int {
	v := m.value(t, e)
	if v.Kind != api.ValueInt {
		fail(t, e, api.ErrType)
	}
	return v.N
}

// function evaluates a node that must be a function.
func (m *Machine) function(t *exprs.Tree, e scene) api.Value {
	v := m.value(t, e)
	if v.Kind != api.ValueFunc {
		fail(t, e, api.ErrType)
	}
	return v
}

// Has says whether a value is a member of the value of an expression.
func (m *Machine) Has(v api.Value, e api.Expr) bool {
	t, at := exprs.Grow(e), scene{place: api.None}
	is, err := lazy.Contains(m.set(t, at), v)
	check(t, at, err)
	return is
}
