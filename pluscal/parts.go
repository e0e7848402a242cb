package pluscal

import (
	"slices"

	"stutter/api"
	"stutter/exprs"
	"stutter/tree"
	"stutter/words"
)

// WordsOf returns the words of algorithms, ascending.
func WordsOf() []string {
	return []string{"algorithm", "assert", "await", "begin", "call", "define", "do", "either", "else", "elsif", "end", "fair", "goto", "if", "macro", "or",
		"procedure", "process", "return", "skip", "strong", "then", "variables", "while", "with"}
}

// isWord says whether a text is a word of algorithms.
func isWord(text string) bool {
	_, is := slices.BinarySearch(WordsOf(), text)
	return is
}

// isName says whether a text is a name of algorithms.
func isName(text string) bool { return words.IsName(text) && !isWord(text) }

// isOwn says whether a name belongs to the language.
func isOwn(name string) bool { return name == "self" || name == "pc" || name == "stack" }

// The kinds of parts.
const (
	partMacro = iota
	partProcedure
	partProcess
	partBody
)

// part is a part with statements: its parameters, and the variables that are its own.
type part struct {
	kind   int
	name   string
	params []string
	vars   []api.PlusVar
	body   []api.PlusStmt
}

// partsOf are the parts of an algorithm, in their order.
func partsOf(a api.Algorithm) []part {
	var out []part
	for _, m := range a.Macros {
		out = append(out, part{partMacro, m.Name, m.Params, nil, m.Body})
	}
	for _, p := range a.Procedures {
		out = append(out, part{partProcedure, p.Name, p.Params, p.Vars, p.Body})
	}
	for _, p := range a.Processes {
		out = append(out, part{partProcess, p.Name, nil, p.Vars, p.Body})
	}
	if len(a.Body) > 0 {
		out = append(out, part{partBody, "", nil, nil, a.Body})
	}
	return out
}

// names are the parameters and variables of a part.
func (p part) names() []string {
	out := slices.Clone(p.params)
	for _, v := range p.vars {
		out = append(out, v.Name)
	}
	return out
}

// node is a statement with its number, those in its blocks, and the one behind it, if it goes on within its part.
type node struct {
	api.PlusStmt
	number int
	blocks [][]*node
	after  *node
}

// grown are the nodes of statements that are not too many; count goes on.
func grown(l []api.PlusStmt, count *int) []*node {
	var out []*node
	for _, s := range l {
		n := &node{PlusStmt: s, number: *count}
		*count++
		for _, b := range s.Blocks {
			inner := grown(b, count)
			n.blocks = append(n.blocks, inner)
		}
		out = append(out, n)
	}
	return out
}

// link tells nodes of a list what is behind them; behind the last one of a loop the loop begins again, at a label.
func link(l []*node, after *node) {
	for i, n := range l {
		n.after = after
		if i+1 < len(l) {
			n.after = l[i+1]
		}
		for _, b := range n.blocks {
			if n.Kind == api.PlusWhile {
				link(b, nil)
			} else {
				link(b, n.after)
			}
		}
	}
}

// nodes are the statements of a part.
func (p part) nodes() []*node {
	count := 0
	out := grown(p.body, &count)
	link(out, nil)
	return out
}

// each calls see for all nodes, in the order in which they begin, with the PlusWiths around.
func each(l []*node, around []*node, see func(n *node, around []*node)) {
	for _, n := range l {
		see(n, around)
		inner := around
		if n.Kind == api.PlusWith {
			inner = append(around[:len(around):len(around)], n)
		}
		for _, b := range n.blocks {
			each(b, inner, see)
		}
	}
}

// tooMany says whether statements are more than are left, or too deep; they may be within themselves.
func tooMany(l []api.PlusStmt, depth int, left *int) bool {
	if len(l) > 0 && depth > api.MaxPlusDepth {
		return true
	}
	for _, s := range l {
		*left--
		if *left < 0 || len(s.Blocks) > api.MaxPlusStmts {
			return true
		}
		for _, b := range s.Blocks {
			if tooMany(b, depth+1, left) {
				return true
			}
		}
	}
	return false
}

// checkExpr is the error of an expression: a word is no name in it.
func checkExpr(e api.Expr) api.Errno {
	if _, err := tree.CheckExpr(e); err != api.OK {
		return err
	}
	for _, n := range e {
		named := n.Kind == api.ExprName || n.Kind == api.ExprApply || n.Kind == api.ExprField
		if named && isWord(n.Text) || slices.ContainsFunc(n.Names, isWord) {
			return api.ErrName
		}
	}
	return api.OK
}

// expressionsOf are the expressions of a statement, those of targets first.
func expressionsOf(s api.PlusStmt) []api.Expr {
	var out []api.Expr
	for _, t := range s.Targets {
		out = append(out, t.Index...)
	}
	return append(out, s.Exprs...)
}

// boundIn are the names that nodes of an expression bind.
func boundIn(e api.Expr) []string {
	var out []string
	for _, n := range e {
		for i := range n.Args {
			out = append(out, exprs.Binds(n, i)...)
		}
	}
	return out
}

// cloneStmts returns statements that share no memory.
func cloneStmts(l []api.PlusStmt) []api.PlusStmt {
	var out []api.PlusStmt
	for _, s := range l {
		out = append(out, cloneStmt(s))
	}
	return out
}

func cloneStmt(s api.PlusStmt) api.PlusStmt {
	out := api.PlusStmt{Kind: s.Kind, Label: s.Label, Name: s.Name, In: s.In, Exprs: cloneExprs(s.Exprs)}
	for _, t := range s.Targets {
		out.Targets = append(out.Targets, api.PlusTarget{Name: t.Name, Field: t.Field, Index: cloneExprs(t.Index)})
	}
	for _, b := range s.Blocks {
		out.Blocks = append(out.Blocks, cloneStmts(b))
	}
	return out
}

func cloneExprs(l []api.Expr) []api.Expr {
	var out []api.Expr
	for _, e := range l {
		out = append(out, exprs.Clone(e))
	}
	return out
}

func cloneVars(l []api.PlusVar) []api.PlusVar {
	var out []api.PlusVar
	for _, v := range l {
		v.Value = exprs.Clone(v.Value)
		out = append(out, v)
	}
	return out
}
