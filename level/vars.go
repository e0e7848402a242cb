package level

import (
	"maps"
	"slices"

	"stutter/api"
	"stutter/exprs"
	"stutter/tree"
)

// set is names.
type set map[string]bool

func (s set) add(other set) {
	for name := range other {
		s[name] = true
	}
}

func (s set) sorted() []string { return slices.Sorted(maps.Keys(s)) }

// uses finds the variables of expressions in a scope.
type uses struct {
	vars   set
	defs   map[string]api.Def
	named  map[string]set // the variables that a definition reaches
	primed map[string]set // the variables, and the parameters, that it primes
}

func usesOf(s api.LevelScope) *uses {
	u := &uses{vars: set{}, defs: map[string]api.Def{}, named: map[string]set{}, primed: map[string]set{}}
	for _, name := range s.Vars {
		u.vars[name] = true
	}
	for _, d := range s.Defs {
		u.defs[d.Name], u.named[d.Name], u.primed[d.Name] = d, set{}, set{}
	}
	u.settle(s, u.named, func(d api.Def) set { return u.within(freeIn(d), nil) })
	u.settle(s, u.primed, func(d api.Def) set {
		out := set{}
		u.prime(exprs.Grow(d.Body), set{}, d.Params, out)
		return out
	})
	return u
}

// settle lets sets of definitions grow until nothing changes.
func (u *uses) settle(s api.LevelScope, sets map[string]set, next func(api.Def) set) {
	for changed := true; changed; {
		changed = false
		for _, d := range s.Defs {
			old := len(sets[d.Name])
			sets[d.Name].add(next(d))
			changed = changed || len(sets[d.Name]) > old
		}
	}
}

// within is the variables, and the parameters, that free names reach.
func (u *uses) within(free, params []string) set {
	out := set{}
	for _, name := range free {
		if u.vars[name] || slices.Contains(params, name) {
			out[name] = true
		} else {
			out.add(u.named[name])
		}
	}
	return out
}

// below is the variables, and the parameters, of a part in which names are bound.
func (u *uses) below(t *exprs.Tree, bound set, params []string) set {
	var free []string
	var walk func(t *exprs.Tree, bound set)
	walk = func(t *exprs.Tree, bound set) {
		if (t.Kind == api.ExprName || t.Kind == api.ExprApply) && !bound[t.Text] {
			free = append(free, t.Text)
		}
		for i, k := range t.Kids {
			walk(k, bound.with(t.Binds(i)))
		}
	}
	walk(t, bound)
	return u.within(free, params)
}

// with is a set with further names.
func (s set) with(names []string) set {
	if len(names) == 0 {
		return s
	}
	out := set{}
	out.add(s)
	for _, name := range names {
		out[name] = true
	}
	return out
}

// prime adds the variables, and the parameters, that are primed in a part outside of ENABLED.
func (u *uses) prime(t *exprs.Tree, bound set, params []string, out set) {
	switch {
	case t.Kind == api.ExprApply && t.Text == "ENABLED":
		return
	case t.Kind == api.ExprApply && (t.Text == "'" || t.Text == "UNCHANGED"):
		out.add(u.below(t.Kids[0], bound, params))
	case t.Kind == api.ExprBox || t.Kind == api.ExprAngle:
		out.add(u.below(t.Kids[1], bound, params))
	case (t.Kind == api.ExprName || t.Kind == api.ExprApply) && !bound[t.Text] && !slices.Contains(params, t.Text):
		d := u.defs[t.Text]
		for name := range u.primed[t.Text] {
			i := slices.Index(d.Params, name)
			switch {
			case i < 0:
				out[name] = true
			case i < len(t.Kids):
				out.add(u.below(t.Kids[i], bound, params))
			}
		}
	}
	for i, k := range t.Kids {
		u.prime(k, bound.with(t.Binds(i)), params, out)
	}
}

// VarsOf returns the variables that an expression, or a definition that it reaches, names.
func VarsOf(s api.LevelScope, e api.Expr) ([]string, api.Errno) {
	if err := checkBoth(s, e); err != api.OK {
		return nil, err
	}
	free, _ := tree.FreeIn(e)
	return usesOf(s).within(free, nil).sorted(), api.OK
}

// PrimedIn returns the variables that are primed in an expression, or a definition that it reaches.
func PrimedIn(s api.LevelScope, e api.Expr) ([]string, api.Errno) {
	if err := checkBoth(s, e); err != api.OK {
		return nil, err
	}
	out := set{}
	usesOf(s).prime(exprs.Grow(e), set{}, nil, out)
	return out.sorted(), api.OK
}
