package translate

import (
	"stutter/api"
	"stutter/exprs"
)

// name, text, apply, .. make expressions.
func name(s string) api.Expr { return exprs.Name(s) }

func text(s string) api.Expr { return api.Expr{{Kind: api.ExprString, Text: s}} }

func number(n int) api.Expr { return api.Expr{{Kind: api.ExprNumber, N: n}} }

func apply(operator string, l ...api.Expr) api.Expr { return exprs.Apply(operator, l...) }

func of(kind int, l ...api.Expr) api.Expr { return exprs.Make(api.Node{Kind: kind}, l...) }

func bind(kind int, bound string, l ...api.Expr) api.Expr {
	return exprs.Make(api.Node{Kind: kind, Names: []string{bound}}, l...)
}

func primed(variable string) api.Expr { return apply("'", name(variable)) }

func except(f, key, item api.Expr) api.Expr { return of(api.ExprExcept, f, key, item) }

// joined is expressions with an infix operator between.
func joined(operator string, l ...api.Expr) api.Expr {
	out := l[0]
	for _, e := range l[1:] {
		out = apply(operator, out, e)
	}
	return out
}

// maxParts is how large an expression may become while it is made.
const maxParts = 4 * api.MaxNodes

// record is a record whose names are those of a node.
func record(n api.Node, items []api.Expr) api.Expr { return exprs.Make(n, items...) }

// fieldOf is the field of a record.
func fieldOf(r api.Expr, field string) api.Expr {
	return exprs.Make(api.Node{Kind: api.ExprField, Text: field}, r)
}
