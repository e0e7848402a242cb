// Package usage says whether the names of expressions mean something, and have as many operands as they take.
package usage

import (
	"stutter/api"
	"stutter/exprs"
	"stutter/tree"
	"stutter/words"
)

// AppliesName says whether a node applies an operator that has a name.
func AppliesName(n api.Node) bool {
	_, err := tree.OperatorOf(n.Text)
	return n.Kind == api.ExprApply && err != api.OK
}

// Takes is how many arguments a name takes: any, if it is a constant.
type Takes struct {
	Arity int
	Any   bool
}

// NamesOf is all names of a scope, of two that are the same the first one.
func NamesOf(s api.LevelScope) map[string]Takes {
	all := map[string]Takes{}
	for _, name := range s.Constants {
		all[name] = Takes{Any: true}
	}
	for _, name := range s.Vars {
		all[name] = Takes{}
	}
	for _, d := range s.Defs {
		if _, is := all[d.Name]; !is {
			all[d.Name] = Takes{Arity: len(d.Params)}
		}
	}
	return all
}

// CheckIn is the error of an expression whose free names are those of a scope, or parameters.
func CheckIn(e api.Expr, known, params map[string]Takes) api.Errno {
	if _, err := tree.CheckExpr(e); err != api.OK {
		return err
	}
	errs := make([]api.Errno, len(e))
	parents := exprs.Parents(e)
	var walk func(node int, bound map[string]Takes)
	walk = func(node int, bound map[string]Takes) {
		n := e[node]
		argument := parents[node] != api.None && AppliesName(e[parents[node]])
		if n.Kind == api.ExprName && !words.IsBuiltIn(n.Text) || AppliesName(n) {
			errs[node] = checkUse(n, argument, bound, params, known)
		}
		for i, a := range n.Args {
			walk(a, withBound(n, i, bound))
		}
	}
	walk(len(e)-1, nil)
	for _, err := range errs {
		if err != api.OK {
			return err
		}
	}
	return api.OK
}

// withBound adds what a node binds in an operand.
func withBound(n api.Node, operand int, bound map[string]Takes) map[string]Takes {
	names := exprs.Binds(n, operand)
	if len(names) == 0 {
		return bound
	}
	out := map[string]Takes{}
	for name, t := range bound {
		out[name] = t
	}
	for _, name := range names {
		out[name] = Takes{}
		if n.Kind == api.ExprLet && name == n.Names[0] {
			out[name] = Takes{Arity: len(n.Names) - 1}
		}
	}
	return out
}

// checkUse looks at a name; the first list that has it says what it takes.
func checkUse(n api.Node, argument bool, lists ...map[string]Takes) api.Errno {
	for _, l := range lists {
		t, is := l[n.Text]
		if !is {
			continue
		}
		if t.Any || len(n.Args) == t.Arity || n.Kind == api.ExprName && argument {
			return api.OK
		}
		return api.ErrArity
	}
	return api.ErrMissing
}
