// Package statements makes of the statements of algorithms a graph: what comes behind each.
package statements

import (
	"slices"

	"stutter/api"
)

// Node is a statement, those in its blocks, the one behind it (nil: the part ends), and how many PlusWiths are around it.
type Node struct {
	api.PlusStmt
	Inner [][]*Node
	After *Node
	Withs int
}

// grown are the nodes of statements; behind the last one of a loop the loop comes.
func grown(l []api.PlusStmt, after *Node, withs int) []*Node {
	out := make([]*Node, len(l))
	for i := range slices.Backward(l) {
		n := &Node{PlusStmt: l[i], After: after, Withs: withs}
		if i+1 < len(l) {
			n.After = out[i+1]
		}
		next, inner := n.After, withs
		switch n.Kind {
		case api.PlusWhile:
			next = n
		case api.PlusWith:
			inner++
		}
		for _, b := range n.Blocks {
			n.Inner = append(n.Inner, grown(b, next, inner))
		}
		out[i] = n
	}
	return out
}

// Labelled adds the nodes with labels to a map.
func Labelled(l []*Node, by map[string]*Node) {
	for _, n := range l {
		if n.Label != "" {
			by[n.Label] = n
		}
		for _, b := range n.Inner {
			Labelled(b, by)
		}
	}
}

// Grown are the nodes of the statements of a part.
func Grown(l []api.PlusStmt) []*Node { return grown(l, nil, 0) }
