package instance

import (
	"slices"
	"strconv"

	"stutter/api"
	"stutter/exprs"
	"stutter/tree"
	"stutter/words"
)

// names is a set of names.
type names map[string]bool

func (s names) add(other names) {
	for name := range other {
		s[name] = true
	}
}

// holdsName says whether the text of a node is a name that may be bound.
func holdsName(t *exprs.Tree) bool {
	if t.Kind == api.ExprName {
		return !words.IsBuiltIn(t.Text)
	}
	_, err := tree.OperatorOf(t.Text)
	return t.Kind == api.ExprApply && err != api.OK
}

// each calls see for all nodes of trees, operands first, with the names that are bound there.
func each(t *exprs.Tree, bound []string, see func(t *exprs.Tree, bound []string)) {
	for i, k := range t.Kids {
		each(k, slices.Concat(bound, t.Binds(i)), see)
	}
	see(t, bound)
}

// freeIn is the names that are free in a tree.
func freeIn(t *exprs.Tree) names {
	out := names{}
	each(t, nil, func(t *exprs.Tree, bound []string) {
		if holdsName(t) && !slices.Contains(bound, t.Text) {
			out[t.Text] = true
		}
	})
	return out
}

// allIn is all names anywhere in trees.
func allIn(l ...*exprs.Tree) names {
	out := names{}
	for _, t := range l {
		each(t, nil, func(t *exprs.Tree, _ []string) {
			if t.Kind == api.ExprName || t.Kind == api.ExprApply || t.Kind == api.ExprField {
				out[t.Text] = true
			}
			for _, name := range t.Names {
				out[name] = true
			}
		})
	}
	return out
}

// fresh gives new names: the first ones that are not taken.
type fresh struct{ taken names }

func (f fresh) name() string {
	for i := 1; ; i++ {
		name := "b_" + strconv.Itoa(i)
		if !f.taken[name] {
			f.taken[name] = true
			return name
		}
	}
}

// item is what is put for a name. It is made when it is asked for, as it may not be used at all.
type item struct {
	free names
	made *exprs.Tree
	make func() *exprs.Tree
}

func (x *item) tree() *exprs.Tree {
	if x.made == nil {
		x.made = x.make()
	}
	return x.made
}

// itemOf puts a tree as it is.
func itemOf(t *exprs.Tree) *item { return &item{free: freeIn(t), made: t} }

// putter puts items for names; changed are the nodes whose names were renamed.
type putter struct {
	fresh
	changed []int
	err     api.Errno
}

// put is a tree with items in the place of free names.
func (p *putter) put(t *exprs.Tree, items map[string]*item) *exprs.Tree {
	if x, is := items[t.Text]; is && holdsName(t) {
		return p.putName(t, x, items)
	}
	out := &exprs.Tree{Kind: t.Kind, N: t.N, Index: t.Index, Text: t.Text, Names: slices.Clone(t.Names)}
	renamed := p.renamings(t, items)
	for i := range out.Names {
		if x := renamed[out.Names[i]]; x != nil {
			out.Names[i] = x.made.Text
		}
	}
	for i, k := range t.Kids {
		inner := items
		if bound := t.Binds(i); len(bound) > 0 {
			inner = without(items, bound)
			for _, name := range bound {
				if x := renamed[name]; x != nil {
					inner[name] = x
				}
			}
		}
		out.Kids = append(out.Kids, p.put(k, inner))
	}
	return out
}

// without is items but for some names.
func without(items map[string]*item, bound []string) map[string]*item {
	out := map[string]*item{}
	for name, x := range items {
		if !slices.Contains(bound, name) {
			out[name] = x
		}
	}
	return out
}

// renamings gives new names to what a node binds where it would capture.
func (p *putter) renamings(t *exprs.Tree, items map[string]*item) map[string]*item {
	captured := names{}
	for i, k := range t.Kids {
		bound := t.Binds(i)
		if len(bound) == 0 || len(items) == 0 {
			continue
		}
		put := without(items, bound)
		for name := range freeIn(k) {
			x := put[name]
			for _, b := range bound {
				if x != nil && x.free[b] {
					captured[b] = true
				}
			}
		}
	}
	if len(captured) == 0 {
		return nil
	}
	p.changed = append(p.changed, t.Index)
	out := map[string]*item{}
	for _, name := range t.Names {
		if captured[name] {
			out[name] = itemOf(exprs.NameTree(p.name()))
		}
	}
	return out
}

// putName puts an item for a name, perhaps with operands.
func (p *putter) putName(t *exprs.Tree, x *item, items map[string]*item) *exprs.Tree {
	by := x.tree()
	if t.Kind == api.ExprName {
		return by
	}
	if by.Kind == api.ExprLambda {
		return p.applyLambda(t, by, items)
	}
	out := exprs.ApplyTree(by.Text)
	for _, k := range t.Kids { // names in operands are renamed, whatever is put for the operator
		out.Kids = append(out.Kids, p.put(k, items))
	}
	if by.Kind != api.ExprName {
		p.err = api.ErrArity
		return by
	}
	return out
}

// applyLambda is the body of a LAMBDA with operands, in which items are put, for its names.
func (p *putter) applyLambda(t, lambda *exprs.Tree, items map[string]*item) *exprs.Tree {
	if len(t.Kids) != len(lambda.Names) {
		p.err = api.ErrArity
		return lambda
	}
	inner := map[string]*item{}
	for i, k := range t.Kids {
		free := names{}
		for name := range freeIn(k) {
			if x := items[name]; x != nil {
				free.add(x.free)
			} else {
				free[name] = true
			}
		}
		inner[lambda.Names[i]] = &item{free: free, make: func() *exprs.Tree { return p.put(k, items) }}
	}
	return p.put(lambda.Kids[0], inner)
}

// finished is the expression of a tree whose parts may be shared.
func finished(t *exprs.Tree) (api.Expr, api.Errno) {
	if t.Size(api.MaxNodes) > api.MaxNodes {
		return nil, api.ErrLarge
	}
	e := t.Flat()
	if _, err := tree.CheckExpr(e); err != api.OK {
		return nil, err
	}
	return e, api.OK
}

// checkSubstitution is the error of a substitution.
func checkSubstitution(s api.Substitution) api.Errno {
	if len(s.Names) != len(s.With) {
		return api.ErrShape
	}
	if len(s.Names) > api.MaxItems {
		return api.ErrLarge
	}
	if slices.ContainsFunc(s.Names, func(name string) bool { return !words.IsName(name) }) {
		return api.ErrName
	}
	for i, name := range s.Names {
		if slices.Contains(s.Names[:i], name) {
			return api.ErrDouble
		}
	}
	for _, e := range s.With {
		if _, err := tree.CheckExpr(e); err != api.OK {
			return err
		}
	}
	return api.OK
}

// substituted puts what a substitution says; it is checked already.
func substituted(e api.Expr, s api.Substitution) (*exprs.Tree, *putter) {
	t := exprs.Grow(e)
	all := []*exprs.Tree{t}
	items := map[string]*item{}
	for i, name := range s.Names {
		with := exprs.Grow(s.With[i])
		all = append(all, with)
		items[name] = itemOf(with)
	}
	p := &putter{fresh: fresh{allIn(all...)}}
	return p.put(t, items), p
}

// checkPut is the error of an expression, then of a substitution.
func checkPut(e api.Expr, s api.Substitution) api.Errno {
	if _, err := tree.CheckExpr(e); err != api.OK {
		return err
	}
	return checkSubstitution(s)
}

// Substituted returns an expression in which other ones are put for free names, all at once.
func Substituted(e api.Expr, s api.Substitution) (api.Expr, api.Errno) {
	if err := checkPut(e, s); err != api.OK {
		return nil, err
	}
	t, p := substituted(e, s)
	if p.err != api.OK {
		return nil, p.err
	}
	return finished(t)
}

// CapturesIn returns the nodes whose names are renamed by a substitution.
func CapturesIn(e api.Expr, s api.Substitution) ([]int, api.Errno) {
	if err := checkPut(e, s); err != api.OK {
		return nil, err
	}
	_, p := substituted(e, s)
	slices.Sort(p.changed)
	return p.changed, api.OK
}
