// Package exprs takes valid expressions apart and puts them together; the layers decide what is valid.
package exprs

import (
	"slices"

	"stutter/api"
)

// Binds returns the names that a node binds in one of its operands, in the order of Names.
func Binds(n api.Node, operand int) []string {
	switch n.Kind {
	case api.ExprFilter, api.ExprChoose, api.ExprMap, api.ExprAll, api.ExprSome, api.ExprFunc, api.ExprAny, api.ExprExists, api.ExprLambda:
		if operand == len(n.Args)-1 {
			return n.Names
		}
	case api.ExprLet:
		if operand == 1 {
			return n.Names[:1]
		}
		if n.N == 1 {
			return n.Names
		}
		return n.Names[1:]
	}
	return nil
}

// Starts returns for each node where its part begins.
func Starts(e api.Expr) []int {
	out := make([]int, len(e))
	for i, n := range e {
		out[i] = i
		if len(n.Args) > 0 {
			out[i] = out[n.Args[0]]
		}
	}
	return out
}

// Parents returns for each node the one whose operand it is, or None.
func Parents(e api.Expr) []int {
	out := make([]int, len(e))
	for i, n := range e {
		out[i] = api.None
		for _, a := range n.Args {
			out[a] = i
		}
	}
	return out
}

// CloneNode returns a node that shares no memory.
func CloneNode(n api.Node) api.Node {
	n.Names, n.Args = slices.Clone(n.Names), slices.Clone(n.Args)
	return n
}

// Clone returns an expression that shares no memory.
func Clone(e api.Expr) api.Expr {
	var out api.Expr
	for _, n := range e {
		out = append(out, CloneNode(n))
	}
	return out
}

// appended adds nodes behind others, moving their operands by so many places.
func appended(out, e api.Expr, by int) api.Expr {
	for _, n := range e {
		n = CloneNode(n)
		for i := range n.Args {
			n.Args[i] += by
		}
		out = append(out, n)
	}
	return out
}

// Part returns the expression with the root node.
func Part(e api.Expr, node int) api.Expr {
	start := Starts(e)[node]
	return appended(nil, e[start:node+1], -start)
}

// Make returns the expression of a node over operands; Args of the node are set here.
func Make(n api.Node, operands ...api.Expr) api.Expr {
	var out api.Expr
	n.Names, n.Args = slices.Clone(n.Names), nil
	for _, o := range operands {
		out = appended(out, o, len(out))
		n.Args = append(n.Args, len(out)-1)
	}
	return append(out, n)
}

// Name returns the expression that is a name.
func Name(s string) api.Expr { return api.Expr{{Kind: api.ExprName, Text: s}} }

// Apply returns an operator with operands.
func Apply(operator string, operands ...api.Expr) api.Expr {
	return Make(api.Node{Kind: api.ExprApply, Text: operator}, operands...)
}

// SameNode says whether two nodes are the same.
func SameNode(a, b api.Node) bool {
	return a.Kind == b.Kind && a.N == b.N && a.Text == b.Text && slices.Equal(a.Names, b.Names) && slices.Equal(a.Args, b.Args)
}

// Same says whether two expressions are the same, node by node.
func Same(a, b api.Expr) bool {
	return slices.EqualFunc(a, b, SameNode)
}
