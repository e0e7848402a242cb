package level

import (
	"slices"

	"stutter/api"
	"stutter/exprs"
	"stutter/tree"
	"stutter/words"
)

// appliesName says whether a node applies an operator that has a name.
func appliesName(n api.Node) bool {
	_, err := tree.OperatorOf(n.Text)
	return n.Kind == api.ExprApply && err != api.OK
}

// takes is how many arguments a name takes: any, if it is a constant.
type takes struct {
	arity int
	any   bool
}

// CheckScope says whether constants, variables and definitions fit together.
func CheckScope(s api.LevelScope) (int, api.Errno) {
	if len(s.Constants) > api.MaxConstants || len(s.Vars) > api.MaxVars || len(s.Defs) > api.MaxDefs {
		return 0, api.ErrLarge
	}
	known := map[string]takes{}
	for i, name := range slices.Concat(s.Constants, s.Vars) {
		if !words.IsName(name) {
			return 0, api.ErrName
		}
		if _, is := known[name]; is {
			return 0, api.ErrExists
		}
		known[name] = takes{any: i < len(s.Constants)}
	}
	all := namesOf(s)
	for i, d := range s.Defs {
		if err := checkDef(d, known, all); err != api.OK {
			return i, err
		}
		known[d.Name] = takes{arity: len(d.Params)}
	}
	return 0, api.OK
}

// namesOf is all names of a scope, of two that are the same the first one.
func namesOf(s api.LevelScope) map[string]takes {
	all := map[string]takes{}
	for _, name := range s.Constants {
		all[name] = takes{any: true}
	}
	for _, name := range s.Vars {
		all[name] = takes{}
	}
	for _, d := range s.Defs {
		if _, is := all[d.Name]; !is {
			all[d.Name] = takes{arity: len(d.Params)}
		}
	}
	return all
}

// checkDef looks at a definition; known are the names before it.
func checkDef(d api.Def, known, all map[string]takes) api.Errno {
	for _, name := range slices.Concat([]string{d.Name}, d.Params) {
		if !words.IsName(name) {
			return api.ErrName
		}
	}
	if _, is := known[d.Name]; is {
		return api.ErrExists
	}
	if len(d.Params) > api.MaxParams {
		return api.ErrLarge
	}
	if len(d.Arities) != len(d.Params) {
		return api.ErrShape
	}
	for _, n := range d.Arities {
		if n < 0 || n > api.MaxParams {
			return api.ErrRange
		}
	}
	for i, name := range d.Params {
		if slices.Contains(d.Params[:i], name) {
			return api.ErrDouble
		}
	}
	inner := map[string]takes{}
	for name, t := range known {
		inner[name] = t
	}
	if d.Recursive {
		inner = all
	}
	params := map[string]takes{}
	for i, name := range d.Params {
		if _, is := all[name]; is {
			return api.ErrClash
		}
		params[name] = takes{arity: d.Arities[i]}
	}
	return checkIn(d.Body, inner, params)
}

// checkIn is the error of an expression whose free names are those of a scope, or parameters.
func checkIn(e api.Expr, known, params map[string]takes) api.Errno {
	if _, err := tree.CheckExpr(e); err != api.OK {
		return err
	}
	errs := make([]api.Errno, len(e))
	parents := exprs.Parents(e)
	var walk func(node int, bound map[string]takes)
	walk = func(node int, bound map[string]takes) {
		n := e[node]
		argument := parents[node] != api.None && appliesName(e[parents[node]])
		if n.Kind == api.ExprName && !words.IsBuiltIn(n.Text) || appliesName(n) {
			errs[node] = checkUse(n, argument, bound, params, known)
		}
		for i, a := range n.Args {
			walk(a, withBound(n, i, bound))
		}
	}
	walk(len(e)-1, nil)
	for _, err := range errs {
		if err != api.OK {
			return err
		}
	}
	return api.OK
}

// withBound adds what a node binds in an operand.
func withBound(n api.Node, operand int, bound map[string]takes) map[string]takes {
	names := exprs.Binds(n, operand)
	if len(names) == 0 {
		return bound
	}
	out := map[string]takes{}
	for name, t := range bound {
		out[name] = t
	}
	for _, name := range names {
		out[name] = takes{}
		if n.Kind == api.ExprLet && name == n.Names[0] {
			out[name] = takes{arity: len(n.Names) - 1}
		}
	}
	return out
}

// checkUse looks at a name; the first list that has it says what it takes.
func checkUse(n api.Node, argument bool, lists ...map[string]takes) api.Errno {
	for _, l := range lists {
		t, is := l[n.Text]
		if !is {
			continue
		}
		if t.any || len(n.Args) == t.arity || n.Kind == api.ExprName && argument {
			return api.OK
		}
		return api.ErrArity
	}
	return api.ErrMissing
}

// checkBoth is the error of a scope, and then of an expression in it.
func checkBoth(s api.LevelScope, e api.Expr) api.Errno {
	if _, err := CheckScope(s); err != api.OK {
		return err
	}
	return checkIn(e, namesOf(s), nil)
}
