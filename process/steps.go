package process

import (
	"slices"

	"stutter/api"
	"stutter/eval"
	"stutter/statements"
	"stutter/values"
)

// way is what a step has done so far: the state, and the names that PlusWiths bind.
type way struct {
	state api.State
	bound []api.Binding
}

// runner executes a step of an identity; it panics with an api.Errno.
type runner struct {
	*system
	identity
	in    *part
	tried int
	ended int
	out   []api.State
}

// tried runs what may panic with an error.
func tried(run func()) (err api.Errno) {
	defer func() {
		if r := recover(); r != nil {
			is := false
			if err, is = r.(api.Errno); !is { // a function that the document lists does not panic
				err = api.ErrForm
			}
		}
	}()
	run()
	return api.OK
}

// check gives up with an error.
func check(err api.Errno) {
	if err != api.OK {
		panic(err)
	}
}

// value evaluates an expression.
func (r *runner) value(w way, e api.Expr) api.Value {
	x, err := eval.ValueOf(r.context(w.state, r.identity, r.in, w.bound, false), e)
	check(err)
	return x.Value
}

// truth evaluates an expression that must be a truth value.
func (r *runner) truth(w way, e api.Expr) bool {
	b, _, err := eval.TruthOf(r.context(w.state, r.identity, r.in, w.bound, false), e)
	check(err)
	return b
}

// get is the value of a variable for the identity.
func (r *runner) get(w way, name string) api.Value {
	i := r.indexOf(name)
	return r.vars[i].at(w.state[i], r.self)
}

// set is a way in which a variable has another value for the identity.
func (r *runner) set(w way, name string, v api.Value) way {
	i := r.indexOf(name)
	next := slices.Clone(w.state)
	next[i] = r.vars[i].with(w.state[i], r.self, v)
	if !values.Fits(next[i]) {
		panic(api.ErrLarge)
	}
	return way{next, w.bound}
}

// finish ends a way at a label.
func (r *runner) finish(w way, label string) {
	w = r.set(w, "pc", values.String(label))
	r.ended++
	if r.ended > api.MaxPlusStepped {
		panic(api.ErrLarge)
	}
	if at, is := slices.BinarySearchFunc(r.out, w.state, values.CompareStates); !is {
		r.out = slices.Insert(r.out, at, w.state)
	}
}

// labelOf is the label that comes before a node, or at the end of the part.
func (r *runner) labelOf(n *statements.Node) string {
	if n == nil {
		return r.in.end
	}
	return n.Label
}

// to goes on to a node, unless a label comes.
func (r *runner) to(w way, n *statements.Node) {
	if label := r.labelOf(n); label != "" {
		r.finish(w, label)
		return
	}
	r.execute(w, n)
}

// block goes on in a block; an empty one goes on behind its statement.
func (r *runner) block(w way, n *statements.Node, block int) {
	if l := n.Inner[block]; len(l) > 0 {
		r.to(w, l[0])
		return
	}
	r.to(w, n.After)
}

// execute executes a statement, and what comes behind it.
func (r *runner) execute(w way, n *statements.Node) {
	r.tried++
	if r.tried > api.MaxPlusTried {
		panic(api.ErrLarge)
	}
	w.bound = w.bound[:n.Withs:n.Withs]
	switch n.Kind {
	case api.PlusAssert:
		if !r.truth(w, n.Exprs[0]) {
			panic(api.ErrBroken)
		}
	case api.PlusAwait:
		if !r.truth(w, n.Exprs[0]) {
			return
		}
	case api.PlusAssign:
		w = r.assign(w, n)
	case api.PlusIf, api.PlusWhile:
		holds := r.truth(w, n.Exprs[0])
		switch {
		case holds:
			r.block(w, n, 0)
		case n.Kind == api.PlusIf:
			r.block(w, n, 1)
		default:
			r.to(w, n.After)
		}
		return
	case api.PlusEither:
		for i := range n.Inner {
			r.block(w, n, i)
		}
		return
	case api.PlusWith:
		r.with(w, n)
		return
	case api.PlusGoto:
		r.finish(w, n.Name)
		return
	case api.PlusCall:
		r.call(w, n)
		return
	case api.PlusReturn:
		r.back(w)
		return
	}
	r.to(w, n.After)
}

// with goes on for the value, or for each member of the set.
func (r *runner) with(w way, n *statements.Node) {
	v := r.value(w, n.Exprs[0])
	members := []api.Value{v}
	if n.In {
		if v.Kind != api.ValueSet {
			panic(api.ErrType)
		}
		members = v.Items
	}
	for _, m := range members {
		bound := append(slices.Clone(w.bound), api.Binding{Name: n.Name, Value: m})
		r.block(way{w.state, bound}, n, 0)
	}
}

// assign evaluates all expressions, and then assigns target after target.
func (r *runner) assign(w way, n *statements.Node) way {
	var keys [][]api.Value
	var items []api.Value
	for i, t := range n.Targets {
		var index []api.Value
		for _, e := range t.Index {
			index = append(index, r.value(w, e))
		}
		keys, items = append(keys, index), append(items, r.value(w, n.Exprs[i]))
	}
	for i, t := range n.Targets {
		v := items[i]
		key := values.String(t.Field)
		switch {
		case len(keys[i]) == 1:
			key = keys[i][0]
		case len(keys[i]) > 1:
			key = values.Tuple(keys[i]...)
		}
		if t.Field != "" || len(keys[i]) > 0 {
			v = except(r.get(w, t.Name), key, v)
		}
		w = r.set(w, t.Name, v)
	}
	return w
}

// except is a function with another item, as EXCEPT has it.
func except(f, key, item api.Value) api.Value {
	if f.Kind != api.ValueFunc {
		panic(api.ErrType)
	}
	at, is := values.Find(f.Keys, key)
	if !is {
		return f
	}
	out := api.Value{Kind: api.ValueFunc, Keys: f.Keys, Items: slices.Clone(f.Items)}
	out.Items[at] = item
	return out
}

// call begins a procedure.
func (r *runner) call(w way, n *statements.Node) {
	p := r.procedures[slices.IndexFunc(r.procedures, func(p *part) bool { return p.name == n.Name })]
	var args []api.Value
	for _, e := range n.Exprs {
		args = append(args, r.value(w, e))
	}
	keys := []api.Value{values.String("pc"), values.String("procedure")}
	items := []api.Value{values.String(r.labelOf(n.After)), values.String(p.name)}
	for _, name := range p.frame() {
		keys, items = append(keys, values.String(name)), append(items, r.get(w, name))
	}
	frame, _ := values.Func(keys, items)
	stack := r.get(w, "stack")
	w = r.set(w, "stack", values.Tuple(slices.Concat([]api.Value{frame}, stack.Items)...))
	for i, name := range p.params {
		w = r.set(w, name, args[i])
	}
	caller := r.in
	r.in, w.bound = p, nil
	for _, v := range p.vars {
		begin := values.Model(none)
		if v.Begins == api.PlusEqual {
			begin = r.value(w, v.Value)
		}
		w = r.set(w, v.Name, begin)
	}
	r.in = caller
	r.finish(w, p.first)
}

// back returns from a procedure.
func (r *runner) back(w way) {
	stack := r.get(w, "stack")
	if len(stack.Items) == 0 {
		panic(api.ErrState)
	}
	frame := stack.Items[0]
	item := func(key string) api.Value {
		at, _ := values.Find(frame.Keys, values.String(key))
		return frame.Items[at]
	}
	if item("procedure").S != r.in.name {
		panic(api.ErrState)
	}
	w = r.set(w, "stack", values.Tuple(stack.Items[1:]...))
	for _, name := range r.in.frame() {
		w = r.set(w, name, item(name))
	}
	r.finish(w, item("pc").S)
}

// begin finds the part and the node of a label for an identity; none at Done and Error.
func (s *system) begin(x identity, label string) (*part, *statements.Node) {
	for _, p := range append([]*part{x.part}, s.procedures...) {
		if n := p.labels[label]; n != nil {
			return p, n
		}
	}
	return nil, nil
}

// label is the label of an identity.
func (s *system) label(state api.State, x identity) string {
	i := s.indexOf("pc")
	return s.vars[i].at(state[i], x.self).S
}

// steps are the states after the steps of an identity.
func (s *system) steps(state api.State, x identity) ([]api.State, api.Errno) {
	p, n := s.begin(x, s.label(state, x))
	if n == nil {
		return nil, api.OK
	}
	r := &runner{system: s, identity: x, in: p}
	if err := tried(func() { r.execute(way{state: state}, n) }); err != api.OK {
		return nil, err
	}
	var out []api.State
	for _, y := range r.out {
		out = append(out, values.CloneAll(y))
	}
	return out, api.OK
}
