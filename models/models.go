// Package models evaluates expressions over a few individuals, quickly for many models.
package models

import (
	"slices"

	"stutter/api"
	"stutter/exprs"
	"stutter/tree"
	"stutter/words"
)

// Of what a term is made.
const (
	isNumber = iota
	isGlobal
	isBound
	isTable
	isEqual
	isMember
	isNot
	isAnd
	isOr
	isImplies
	isIff
	isAll
	isSome
)

// term is a part of an expression; number is a value, a place of a name, a slot, or a table.
type term struct {
	what, number int
	kids, sets   []*term
	slots        []int
	used         []bool
	free         []int
	memo         map[int]int
}

// World is a model: what each name is, who is a member of whom, and what each table says.
type World struct {
	Size    int
	Values  []int
	Members []int
	Tables  [][]int
}

// Fault returns the error of the first node that has no value, if has says which operators have tables for how many operands.
func Fault(e api.Expr, has func(operator string, operands int) bool) api.Errno {
	for i, n := range e {
		switch n.Kind {
		case api.ExprName:
			if n.Text == "BOOLEAN" || n.Text == "STRING" {
				return api.ErrRefused
			}
		case api.ExprAll, api.ExprSome, api.ExprAny, api.ExprExists:
		case api.ExprApply:
			if connective(n.Text) != isNumber {
				continue
			}
			bound, _ := tree.BoundAt(e, i)
			if isSymbol(n.Text) || slices.Contains(bound, n.Text) {
				return api.ErrRefused
			}
			if !has(n.Text, len(n.Args)) {
				return api.ErrMissing
			}
		default:
			return api.ErrRefused
		}
	}
	return api.OK
}

func isSymbol(operator string) bool { return !words.IsName(operator) && !words.IsQualified(operator) }

// connective returns what an operator means in each model, or isNumber.
func connective(operator string) int {
	switch operator {
	case "~":
		return isNot
	case "/\\":
		return isAnd
	case "\\/":
		return isOr
	case "=>":
		return isImplies
	case "<=>":
		return isIff
	case "=", "#":
		return isEqual
	case "\\in", "\\notin":
		return isMember
	}
	return isNumber
}

// compiler knows the places of names and tables, and the names that are bound around, with their slots.
type compiler struct {
	names  []string
	tables []string
	bound  []string
	slots  []int
	next   int
}

// Formula is an expression in which names are found.
type Formula struct {
	root  *term
	slots []int
}

// Compile prepares an expression without a fault; names that are not listed are 0.
func Compile(e api.Expr, names, tables []string) *Formula {
	c := &compiler{names: names, tables: tables}
	root := c.compile(exprs.Grow(e))
	return &Formula{root, make([]int, c.next)}
}

func (c *compiler) compile(t *exprs.Tree) *term {
	switch t.Kind {
	case api.ExprName:
		return c.name(t.Text)
	case api.ExprApply:
		return c.apply(t)
	}
	return c.quantified(t)
}

func (c *compiler) name(s string) *term {
	for i := len(c.bound) - 1; i >= 0; i-- {
		if c.bound[i] == s {
			return &term{what: isBound, number: c.slots[i], free: []int{c.slots[i]}}
		}
	}
	if i := slices.Index(c.names, s); i >= 0 {
		return &term{what: isGlobal, number: i}
	}
	if s == "TRUE" {
		return &term{what: isNumber, number: 1}
	}
	return &term{what: isNumber}
}

func (c *compiler) apply(t *exprs.Tree) *term {
	out := &term{what: connective(t.Text)}
	if out.what == isNumber {
		out.what, out.number = isTable, slices.Index(c.tables, t.Text)
	}
	for _, k := range t.Kids {
		out.add(c.compile(k))
	}
	if t.Text == "#" || t.Text == "\\notin" {
		return &term{what: isNot, kids: []*term{out}, free: out.free}
	}
	return out
}

// add takes an operand, and which slots it depends on.
func (t *term) add(kid *term) {
	t.kids = append(t.kids, kid)
	t.depend(kid.free)
}

func (t *term) depend(slots []int) {
	for _, s := range slots {
		if !slices.Contains(t.free, s) {
			t.free = append(t.free, s)
		}
	}
}

func (c *compiler) quantified(t *exprs.Tree) *term {
	out := &term{what: isSome}
	if t.Kind == api.ExprAll || t.Kind == api.ExprAny {
		out.what = isAll
	}
	last := len(t.Kids) - 1
	for _, k := range t.Kids[:last] {
		set := c.compile(k)
		out.sets = append(out.sets, set)
		out.depend(set.free)
	}
	around := len(c.bound)
	for _, name := range t.Names {
		out.slots = append(out.slots, c.next)
		c.bound, c.slots = append(c.bound, name), append(c.slots, c.next)
		c.next++
	}
	body := c.compile(t.Kids[last])
	c.bound, c.slots = c.bound[:around], c.slots[:around]
	out.kids = []*term{body}
	for _, s := range body.free {
		if !slices.Contains(out.slots, s) {
			out.depend([]int{s})
		}
	}
	for _, s := range out.slots {
		out.used = append(out.used, slices.Contains(body.free, s))
	}
	return out
}
