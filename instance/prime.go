package instance

import (
	"slices"

	"stutter/api"
	"stutter/exprs"
	"stutter/level"
)

// mover moves primes to variables; size is how many nodes the whole has.
type mover struct {
	vars    []string
	size    int
	refused bool
	large   bool
}

// isVar says whether a tree is a variable that is not bound.
func (m *mover) isVar(t *exprs.Tree, bound []string) bool {
	return t.Kind == api.ExprName && slices.Contains(m.vars, t.Text) && !slices.Contains(bound, t.Text)
}

func isApplied(t *exprs.Tree, operator string) bool {
	return t.Kind == api.ExprApply && t.Text == operator
}

// move is a tree with primes moved, from the innermost ones outwards; around is the operator whose operand it is.
func (m *mover) move(t *exprs.Tree, bound []string, around string) *exprs.Tree {
	out := *t
	out.Kids = nil
	name := ""
	if t.Kind == api.ExprApply {
		name = t.Text
	}
	for i, k := range t.Kids {
		out.Kids = append(out.Kids, m.move(k, slices.Concat(bound, t.Binds(i)), name))
	}
	box := t.Kind == api.ExprBox && around != "[]"
	angle := t.Kind == api.ExprAngle && around != "<>"
	if name != "'" && name != "UNCHANGED" && !box && !angle {
		return &out
	}
	last := out.Kids[len(out.Kids)-1]
	m.refused = m.refused || !m.isVar(last, bound) && !isMovable(last)
	switch {
	case m.large: // nothing is made any more, but what is refused is still told
		return &out
	case name == "'":
		return m.changed(&out, m.primed(last, bound))
	case name == "UNCHANGED":
		return m.changed(&out, m.unchanged(last, bound))
	case box:
		return m.changed(&out, exprs.ApplyTree(`\/`, out.Kids[0], m.unchanged(last, bound)))
	}
	return m.changed(&out, exprs.ApplyTree(`/\`, out.Kids[0], exprs.ApplyTree("~", m.unchanged(last, bound))))
}

// changed counts the nodes of what takes the place of a tree.
func (m *mover) changed(old, by *exprs.Tree) *exprs.Tree {
	m.size += by.Size(2*api.MaxNodes) - old.Size(2*api.MaxNodes)
	if m.size > api.MaxNodes {
		m.large = true
	}
	return by
}

func (m *mover) unchanged(t *exprs.Tree, bound []string) *exprs.Tree {
	return exprs.ApplyTree("=", m.primed(t, bound), t)
}

// primed is a tree in which each free variable is primed.
func (m *mover) primed(t *exprs.Tree, bound []string) *exprs.Tree {
	var prime func(t *exprs.Tree, bound []string) *exprs.Tree
	prime = func(t *exprs.Tree, bound []string) *exprs.Tree {
		if m.isVar(t, bound) {
			return exprs.ApplyTree("'", t)
		}
		out := *t
		out.Kids = nil
		for i, k := range t.Kids {
			out.Kids = append(out.Kids, prime(k, slices.Concat(bound, t.Binds(i))))
		}
		return &out
	}
	return prime(t, bound)
}

// isMovable says whether a prime may be moved into a tree.
func isMovable(t *exprs.Tree) bool {
	ok := true
	each(t, nil, func(t *exprs.Tree, _ []string) {
		switch t.Kind {
		case api.ExprWeak, api.ExprStrong, api.ExprBox, api.ExprAngle:
			ok = false
		case api.ExprApply:
			ok = ok && !slices.Contains([]string{"ENABLED", "'", "UNCHANGED", `\cdot`, "[]", "<>", "~>"}, t.Text)
		}
	})
	return ok
}

// moved moves the primes of a tree that is a part of one with so many nodes.
func (w *world) moved(t *exprs.Tree, bound []string, size int) (*exprs.Tree, int, api.Errno) {
	m := &mover{vars: w.vars, size: size}
	out := m.move(t, bound, "")
	if m.refused {
		return nil, 0, api.ErrRefused
	}
	if m.large {
		return nil, 0, api.ErrLarge
	}
	return out, m.size, api.OK
}

// PrimesMoved returns an expression in which only variables are primed.
func PrimesMoved(s api.LevelScope, e api.Expr) (api.Expr, api.Errno) {
	if _, err := level.VarsOf(s, e); err != api.OK {
		return nil, err
	}
	w := worldOf(s)
	t := exprs.Grow(e)
	for name := range freeIn(t) {
		if _, is := w.defs[name]; is {
			return nil, api.ErrState
		}
	}
	if _, err := level.LevelOf(s, e); err != api.OK {
		return nil, err
	}
	out, _, err := w.moved(t, nil, len(e))
	if err != api.OK {
		return nil, err
	}
	return finished(out)
}

// remover replaces ENABLED by names that are there; an error that is refused comes before one of size.
type remover struct {
	*world
	size  int
	large bool
	err   api.Errno
}

// remove replaces each ENABLED, from the innermost ones outwards.
func (r *remover) remove(t *exprs.Tree, bound []string) *exprs.Tree {
	out := *t
	out.Kids = nil
	for i, k := range t.Kids {
		out.Kids = append(out.Kids, r.remove(k, slices.Concat(bound, t.Binds(i))))
	}
	if !isApplied(t, "ENABLED") || r.err != api.OK || r.large {
		return &out
	}
	inner, size, err := r.moved(out.Kids[0], bound, r.size)
	switch err {
	case api.OK:
	case api.ErrLarge:
		r.large = true
		return &out
	default:
		r.err = err
		return &out
	}
	by := r.quantified(inner, bound)
	r.size = size + by.Size(2*api.MaxNodes) - inner.Size(2*api.MaxNodes) - 1
	r.large = r.size > api.MaxNodes
	return by
}

// quantified is an action whose primed variables are names that are there.
func (r *remover) quantified(t *exprs.Tree, bound []string) *exprs.Tree {
	m := &mover{vars: r.vars}
	primed := names{}
	each(t, bound, func(t *exprs.Tree, bound []string) {
		if isApplied(t, "'") && m.isVar(t.Kids[0], bound) {
			primed[t.Kids[0].Text] = true
		}
	})
	taken := allIn(t)
	taken.add(r.named)
	f := fresh{taken}
	by := map[string]string{}
	var order []string
	for _, name := range r.vars {
		if primed[name] {
			by[name] = f.name()
			order = append(order, by[name])
		}
	}
	var replace func(t *exprs.Tree, bound []string) *exprs.Tree
	replace = func(t *exprs.Tree, bound []string) *exprs.Tree {
		if isApplied(t, "'") && m.isVar(t.Kids[0], bound) {
			return exprs.NameTree(by[t.Kids[0].Text])
		}
		out := *t
		out.Kids = nil
		for i, k := range t.Kids {
			out.Kids = append(out.Kids, replace(k, slices.Concat(bound, t.Binds(i))))
		}
		return &out
	}
	out := replace(t, bound)
	for end := len(order); end > 0; {
		start := (end - 1) / api.MaxBound * api.MaxBound
		out = &exprs.Tree{Kind: api.ExprExists, Names: slices.Clone(order[start:end]), Kids: []*exprs.Tree{out}}
		end = start
	}
	return out
}

// cdotWithin says whether a \cdot stands within an ENABLED.
func cdotWithin(t *exprs.Tree, enabled bool) bool {
	if enabled && isApplied(t, `\cdot`) {
		return true
	}
	for _, k := range t.Kids {
		if cdotWithin(k, enabled || isApplied(t, "ENABLED")) {
			return true
		}
	}
	return false
}

// withoutEnabled is a tree that is expanded, with primes moved, and without ENABLED.
func (w *world) withoutEnabled(t *exprs.Tree, bound []string) (*exprs.Tree, api.Errno) {
	if cdotWithin(t, false) {
		return nil, api.ErrRefused
	}
	r := &remover{world: w, size: t.Size(api.MaxNodes)}
	out := r.remove(t, bound)
	if r.err != api.OK {
		return nil, r.err
	}
	if r.large {
		return nil, api.ErrLarge
	}
	out, _, err := w.moved(out, bound, r.size)
	return out, err
}

// WithoutEnabled returns an expression expanded, with primes moved, and without ENABLED.
func WithoutEnabled(s api.LevelScope, e api.Expr) (api.Expr, api.Errno) {
	expanded, err := Expanded(s, e)
	if err != api.OK {
		return nil, err
	}
	if _, err := level.LevelOf(s, expanded); err != api.OK {
		return nil, err
	}
	t, err := worldOf(s).withoutEnabled(exprs.Grow(expanded), nil)
	if err != api.OK {
		return nil, err
	}
	return finished(t)
}
