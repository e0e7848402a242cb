package instance

import (
	"slices"

	"stutter/api"
	"stutter/exprs"
	"stutter/level"
	"stutter/tree"
	"stutter/words"
)

// world is the definitions by which expressions are expanded, and the variables.
type world struct {
	vars  []string
	defs  map[string]api.Def
	named names // all names of the scope
}

func worldOf(s api.LevelScope) *world {
	w := &world{vars: s.Vars, defs: map[string]api.Def{}, named: names{}}
	for _, d := range s.Defs {
		w.defs[d.Name] = d
		w.named[d.Name] = true
	}
	for _, name := range slices.Concat(s.Constants, s.Vars) {
		w.named[name] = true
	}
	return w
}

// place is where a use of a definition stands: what to replace, and the names that are bound there.
type place struct {
	slot  **exprs.Tree
	bound []string
}

// nextUse finds the use of a definition with the smallest index.
func (w *world) nextUse(slot **exprs.Tree, bound []string) *place {
	t := *slot
	for i := range t.Kids {
		if found := w.nextUse(&t.Kids[i], slices.Concat(bound, t.Binds(i))); found != nil {
			return found
		}
	}
	if d, is := w.defs[t.Text]; is && holdsName(t) && !slices.Contains(bound, t.Text) && len(d.Params) == len(t.Kids) {
		return &place{slot, bound}
	}
	return nil
}

// expanded expands all uses of definitions, one after the other.
func (w *world) expanded(t *exprs.Tree) (*exprs.Tree, api.Errno) {
	t = t.Copy()
	for uses := 0; ; uses++ {
		at := w.nextUse(&t, nil)
		if at == nil {
			return t, api.OK
		}
		by, err := w.bodyFor(*at.slot, at.bound, allIn(t))
		if err != api.OK {
			return nil, err
		}
		*at.slot = by
		if uses >= api.MaxNodes || t.Size(api.MaxNodes) > api.MaxNodes {
			return nil, api.ErrLarge
		}
		t = t.Copy() // parts of what was put may be shared
	}
}

// bodyFor is the body of the definition that a node uses, with its operands.
func (w *world) bodyFor(use *exprs.Tree, bound []string, taken names) (*exprs.Tree, api.Errno) {
	d := w.defs[use.Text]
	if d.Recursive {
		return nil, api.ErrLoop
	}
	body := exprs.Grow(d.Body)
	if captures(d, body, use, bound) {
		return nil, api.ErrCapture
	}
	taken.add(allIn(append(slices.Clone(use.Kids), body)...))
	taken.add(w.named)
	items := map[string]*item{}
	for i, name := range d.Params {
		items[name] = itemOf(use.Kids[i])
	}
	p := &putter{fresh: fresh{taken}}
	out := p.put(body, items)
	return out, p.err
}

// captures says whether a name would be captured where a definition is expanded.
func captures(d api.Def, body, use *exprs.Tree, bound []string) bool {
	for name := range freeIn(body) {
		if !slices.Contains(d.Params, name) && slices.Contains(bound, name) {
			return true
		}
	}
	lambdas := map[string]names{}
	all := names{}
	for i, k := range use.Kids {
		all.add(freeIn(k))
		if k.Kind == api.ExprLambda {
			lambdas[d.Params[i]] = freeIn(k)
		}
	}
	captured := false
	each(body, nil, func(t *exprs.Tree, inner []string) {
		free, is := lambdas[t.Text]
		if !is || !holdsName(t) || slices.Contains(inner, t.Text) {
			return
		}
		captured = captured || slices.ContainsFunc(inner, func(name string) bool { return free[name] })
	})
	return captured || len(lambdas) > 0 && slices.ContainsFunc(d.Params, func(name string) bool { return all[name] })
}

// Expanded returns an expression of a scope in which definitions are expanded.
func Expanded(s api.LevelScope, e api.Expr) (api.Expr, api.Errno) {
	if _, err := level.VarsOf(s, e); err != api.OK {
		return nil, err
	}
	t, err := worldOf(s).expanded(exprs.Grow(e))
	if err != api.OK {
		return nil, err
	}
	out, err := finished(t)
	if err != api.OK {
		return nil, err
	}
	if _, err := level.VarsOf(s, out); err != api.OK {
		return nil, err
	}
	return out, api.OK
}

// checkDefs is the error of definitions that stand alone.
func checkDefs(l []api.Def) api.Errno {
	if len(l) > api.MaxDefs {
		return api.ErrLarge
	}
	for i, d := range l {
		if err := checkDef(d, l[:i]); err != api.OK {
			return err
		}
	}
	return api.OK
}

func checkDef(d api.Def, before []api.Def) api.Errno {
	for _, name := range slices.Concat([]string{d.Name}, d.Params) {
		if !words.IsName(name) {
			return api.ErrName
		}
	}
	if slices.ContainsFunc(before, func(b api.Def) bool { return b.Name == d.Name }) {
		return api.ErrExists
	}
	if len(d.Params) > api.MaxParams {
		return api.ErrLarge
	}
	if len(d.Arities) != len(d.Params) {
		return api.ErrShape
	}
	if slices.ContainsFunc(d.Arities, func(n int) bool { return n < 0 || n > api.MaxParams }) {
		return api.ErrRange
	}
	for i, name := range d.Params {
		if slices.Contains(d.Params[:i], name) {
			return api.ErrDouble
		}
	}
	_, err := tree.CheckExpr(d.Body)
	return err
}

// ExpandedBy returns an expression expanded by definitions alone.
func ExpandedBy(l []api.Def, e api.Expr) (api.Expr, api.Errno) {
	if _, err := tree.CheckExpr(e); err != api.OK {
		return nil, err
	}
	if err := checkDefs(l); err != api.OK {
		return nil, err
	}
	t, err := worldOf(api.LevelScope{Defs: l}).expanded(exprs.Grow(e))
	if err != api.OK {
		return nil, err
	}
	return finished(t)
}
