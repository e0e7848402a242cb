package prover

import (
	"cmp"
	"slices"
	"strconv"
	"strings"

	"stutter/alike"
	"stutter/api"
	"stutter/exprs"
	"stutter/usage"
)

// term is an expression of which the operands of named operators count as parts; all other expressions are leaves.
type term struct {
	key  string // alike terms, and no others, have the same one
	size int    // how many nodes it has
	leaf api.Expr
	name string
	kids []*term
}

// termOf is an expression as a term.
func termOf(e api.Expr) *term {
	if root := e[len(e)-1]; usage.AppliesName(root) {
		var kids []*term
		for _, o := range alike.Operands(e) {
			kids = append(kids, termOf(o))
		}
		return applying(root.Text, kids)
	}
	key := alike.Key(e)
	if key == "" { // a LAMBDA is no expression but as an operand
		key = alike.Key(exprs.Apply("x", e))
	}
	return &term{key: key, size: len(e), leaf: e}
}

// applying is a named operator with operands.
func applying(name string, kids []*term) *term {
	t := &term{size: 1, name: name, kids: kids}
	keys := []string{name, strconv.Itoa(len(kids))}
	for _, k := range kids {
		t.size += k.size
		keys = append(keys, k.key)
	}
	t.key = strings.Join(keys, " ")
	return t
}

// expr is the expression of a term.
func (t *term) expr() api.Expr {
	if len(t.kids) == 0 {
		return t.leaf
	}
	var l []api.Expr
	for _, k := range t.kids {
		l = append(l, k.expr())
	}
	return exprs.Apply(t.name, l...)
}

// has says whether a term is another one, or has it in it.
func (t *term) has(other *term) bool {
	return t.key == other.key || other.size < t.size && slices.ContainsFunc(t.kids, func(k *term) bool { return k.has(other) })
}

// with is a term in which one stands everywhere in the place of another one.
func (t *term) with(other, by *term) *term {
	if t.key == other.key {
		return by
	}
	if !t.has(other) {
		return t
	}
	var kids []*term
	for _, k := range t.kids {
		kids = append(kids, k.with(other, by))
	}
	return applying(t.name, kids)
}

// compare orders terms: those with fewer nodes come first, and what is put in the place of a greater part makes a lesser term.
func (t *term) compare(other *term) int {
	if t.key == other.key {
		return 0
	}
	if c := cmp.Or(cmp.Compare(t.size, other.size), cmp.Compare(len(t.kids), len(other.kids)), cmp.Compare(t.name, other.name)); c != 0 {
		return c
	}
	for i, k := range t.kids {
		if c := k.compare(other.kids[i]); c != 0 {
			return c
		}
	}
	return cmp.Compare(t.key, other.key)
}
