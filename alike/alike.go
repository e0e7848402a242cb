// Package alike tells expressions apart up to the names that they bind.
package alike

import (
	"strconv"

	"stutter/api"
	"stutter/exprs"
	"stutter/tree"
)

// Key returns a text that two expressions share exactly if they are alike; it is empty if there is no such expression.
func Key(e api.Expr) string {
	c, err := tree.Canonical(e)
	if err != api.OK {
		return ""
	}
	var out []byte
	for _, n := range c {
		out = strconv.AppendInt(out, int64(n.Kind), 10)
		out = append(out, ' ')
		out = strconv.AppendInt(out, int64(n.N), 10)
		out = strconv.AppendQuote(out, n.Text)
		for _, s := range n.Names {
			out = append(append(out, s...), ',')
		}
		out = strconv.AppendInt(out, int64(len(n.Args)), 10)
		out = append(out, ';')
	}
	return string(out)
}

// Keys returns the key of each expression.
func Keys(l []api.Expr) []string {
	var out []string
	for _, e := range l {
		out = append(out, Key(e))
	}
	return out
}

// Parts returns the operands of an operator, and whether the expression is one of it.
func Parts(e api.Expr, operator string) ([]api.Expr, bool) {
	if len(e) == 0 || e[len(e)-1].Kind != api.ExprApply || e[len(e)-1].Text != operator {
		return nil, false
	}
	return Operands(e), true
}

// Operands returns the operands of a root.
func Operands(e api.Expr) []api.Expr {
	var out []api.Expr
	for _, a := range e[len(e)-1].Args {
		out = append(out, exprs.Part(e, a))
	}
	return out
}

// IsWord says whether an expression is a name, or a word like TRUE, alone.
func IsWord(e api.Expr, word string) bool {
	return len(e) == 1 && e[0].Kind == api.ExprName && e[0].Text == word
}
