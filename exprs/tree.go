package exprs

import (
	"slices"

	"stutter/api"
)

// Tree is a node of a valid expression with its operands; Index is its place among the nodes it was made of.
type Tree struct {
	Kind, N, Index int
	Text           string
	Names          []string
	Kids           []*Tree
}

// Grow returns the tree of a valid expression.
func Grow(e api.Expr) *Tree {
	all := make([]*Tree, len(e))
	for i, n := range e {
		t := &Tree{Kind: n.Kind, N: n.N, Index: i, Text: n.Text, Names: slices.Clone(n.Names)}
		for _, a := range n.Args {
			t.Kids = append(t.Kids, all[a])
		}
		all[i] = t
	}
	return all[len(e)-1]
}

// Flat returns the nodes of a tree.
func (t *Tree) Flat() api.Expr {
	var out api.Expr
	t.addTo(&out)
	return out
}

func (t *Tree) addTo(out *api.Expr) int {
	n := api.Node{Kind: t.Kind, N: t.N, Text: t.Text, Names: slices.Clone(t.Names)}
	for _, k := range t.Kids {
		at := k.addTo(out)
		n.Args = append(n.Args, at)
	}
	*out = append(*out, n)
	return len(*out) - 1
}

// Size returns how many nodes a tree has, or a number above most as soon as there are more.
func (t *Tree) Size(most int) int {
	n := 1
	for _, k := range t.Kids {
		if n > most {
			return n
		}
		n += k.Size(most - n)
	}
	return n
}

// Binds returns the names that the node binds in one of its operands.
func (t *Tree) Binds(operand int) []string {
	switch t.Kind {
	case api.ExprLet:
		return Binds(api.Node{Kind: t.Kind, N: t.N, Names: t.Names, Args: make([]int, 2)}, operand)
	case api.ExprFilter, api.ExprChoose, api.ExprMap, api.ExprAll, api.ExprSome, api.ExprFunc, api.ExprAny, api.ExprExists, api.ExprLambda:
		if operand == len(t.Kids)-1 {
			return t.Names
		}
	}
	return nil
}

// Copy returns a tree that shares no memory.
func (t *Tree) Copy() *Tree {
	out := &Tree{Kind: t.Kind, N: t.N, Index: t.Index, Text: t.Text, Names: slices.Clone(t.Names)}
	for _, k := range t.Kids {
		out.Kids = append(out.Kids, k.Copy())
	}
	return out
}

// NameTree returns the tree of a name.
func NameTree(s string) *Tree { return &Tree{Kind: api.ExprName, Text: s} }

// ApplyTree returns the tree of an operator with operands.
func ApplyTree(operator string, kids ...*Tree) *Tree {
	return &Tree{Kind: api.ExprApply, Text: operator, Kids: kids}
}
