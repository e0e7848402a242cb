package translate

import (
	"slices"

	"stutter/api"
	"stutter/eval"
	"stutter/exprs"
	"stutter/pluscal"
	"stutter/process"
	"stutter/statements"
	"stutter/words"
)

// none is the value of a variable that begins without one.
const none = "defaultInitValue"

// part is a process, a procedure, or the body.
type part struct {
	api.PlusProcess
	params    []string
	procedure bool
	end       string
	labels    []string
	nodes     map[string]*statements.Node
}

// system is a program that is translated.
type system struct {
	api.PlusProgram
	api.Algorithm
	vars       []string
	parts      []*part // procedures, then processes, or the body
	concurrent bool

	// What a specification is written with.
	large bool
	most  int                           // how many nodes what comes behind a statement may have, unless it is a definition of its own
	made  map[*statements.Node]api.Expr // what comes from a statement on
	more  []api.Def                     // further definitions
	given map[string]bool               // names that mean something
}

// isShared says whether a variable is a function on identities, and known in a part by its value for one.
func (s *system) isShared(p *part, variable string) bool {
	return s.concurrent && (p.procedure || p.In) && slices.Contains(p.frame(), variable)
}

// frame is the parameters and variables of a part.
func (p *part) frame() []string {
	out := slices.Clone(p.params)
	for _, v := range p.Vars {
		out = append(out, v.Name)
	}
	return out
}

// systemOf prepares a program, or returns its error.
func systemOf(p api.PlusProgram) (*system, api.Errno) {
	vars, err := process.VarsOf(p)
	if err != api.OK {
		return nil, err
	}
	a, err := pluscal.Expanded(p.Algorithm)
	if err != api.OK {
		return nil, err
	}
	s := &system{PlusProgram: p, Algorithm: a, vars: vars, concurrent: len(a.Processes) > 0}
	for _, q := range a.Procedures {
		s.add(&part{PlusProcess: api.PlusProcess{Name: q.Name, Vars: q.Vars, Body: q.Body}, params: q.Params, procedure: true, end: "Error"})
	}
	for _, q := range a.Processes {
		if l, _, _ := eval.SetOf(api.Context{Values: p.Constants, Defs: a.Defs}, q.Value); q.In && len(l) > fewParts {
			q.Value = listed(q.Value)
		}
		s.add(&part{PlusProcess: q, end: "Done"})
	}
	if !s.concurrent {
		s.add(&part{PlusProcess: api.PlusProcess{Fair: a.Fair, Body: a.Body}, end: "Done"})
	}
	if s.isRefused() {
		return nil, api.ErrRefused
	}
	return s, api.OK
}

// fewParts is of how many parts a set of identities is made at most that is not listed: the sets of all processes together, and a set of functions on one of them, have fewer than MaxLazyNodes then.
const fewParts = 4

// listed is a set whose members are listed.
func listed(set api.Expr) api.Expr {
	if set[len(set)-1].Kind == api.ExprSet {
		return set
	}
	return bind(api.ExprFilter, "member", set, name("TRUE"))
}

func (s *system) add(p *part) {
	p.nodes = map[string]*statements.Node{}
	statements.Labelled(statements.Grown(p.Body), p.nodes)
	p.labels = labelsOf(p.Body)
	s.parts = append(s.parts, p)
}

// labelsOf are the labels of statements, in their order.
func labelsOf(l []api.PlusStmt) []string {
	var out []string
	for _, x := range l {
		if x.Label != "" {
			out = append(out, x.Label)
		}
		for _, b := range x.Blocks {
			out = append(out, labelsOf(b)...)
		}
	}
	return out
}

// eachStatement calls see for all statements.
func eachStatement(l []api.PlusStmt, see func(x api.PlusStmt)) {
	for _, x := range l {
		see(x)
		for _, b := range x.Blocks {
			eachStatement(b, see)
		}
	}
}

// expressions are all expressions of an algorithm.
func (s *system) expressions() []api.Expr {
	var out []api.Expr
	for _, v := range s.Vars {
		out = append(out, v.Value)
	}
	for _, d := range s.Defs {
		out = append(out, d.Body)
	}
	for _, p := range s.parts {
		out = append(out, p.Value)
		for _, v := range p.Vars {
			out = append(out, v.Value)
		}
		eachStatement(p.Body, func(x api.PlusStmt) {
			for _, t := range x.Targets {
				out = append(out, t.Index...)
			}
			out = append(out, x.Exprs...)
		})
	}
	return out
}

// isRefused says whether a name stands in the way of those of the specification.
func (s *system) isRefused() bool {
	taken := slices.Clone(s.vars)
	for _, b := range s.Constants {
		taken = append(taken, b.Name)
	}
	for _, d := range s.Defs {
		taken = append(taken, d.Name)
	}
	standard := []string{"Nat", "Int", "Seq"}
	refused := s.concurrent && slices.Contains(taken, "ProcSet") || slices.ContainsFunc(s.vars, func(v string) bool { return slices.Contains(standard, v) })
	for _, p := range s.parts {
		for _, label := range p.labels {
			refused = refused || slices.Contains(taken, label) || slices.Contains(append([]string{"ProcSet", "self", none}, standard...), label)
		}
		eachStatement(p.Body, func(x api.PlusStmt) {
			with := x.Kind == api.PlusWith
			refused = refused || with && (slices.Contains(standard, x.Name) || x.Name == none || x.Name == "self")
		})
	}
	return refused || slices.ContainsFunc(s.expressions(), bindsSelf)
}

// bindsSelf says whether a node of an expression binds the name self.
func bindsSelf(e api.Expr) bool {
	return slices.ContainsFunc(e, func(n api.Node) bool {
		for i := range n.Args {
			if slices.Contains(exprs.Binds(n, i), "self") {
				return true
			}
		}
		return false
	})
}

// own is an expression of a part, in which variables that are functions on identities stand for their values for one.
func (s *system) own(p *part, e api.Expr) api.Expr {
	var put func(t *exprs.Tree, bound []string) *exprs.Tree
	put = func(t *exprs.Tree, bound []string) *exprs.Tree {
		if t.Kind == api.ExprName && !words.IsBuiltIn(t.Text) && !slices.Contains(bound, t.Text) && s.isShared(p, t.Text) {
			return &exprs.Tree{Kind: api.ExprCall, Kids: []*exprs.Tree{t, exprs.NameTree("self")}}
		}
		for i, k := range t.Kids {
			t.Kids[i] = put(k, slices.Concat(bound, t.Binds(i)))
		}
		return t
	}
	return put(exprs.Grow(e), nil).Flat()
}

// place is where the value of a variable is for an identity.
type place interface {
	get() api.Expr
	set(value api.Expr) api.Expr // what makes it the new value
}

// alone is a variable that has one value for all.
type alone string

func (v alone) get() api.Expr { return name(string(v)) }

func (v alone) set(value api.Expr) api.Expr { return apply("=", primed(string(v)), value) }

// item is a variable that is a function on identities: its item for one.
type item string

func (v item) get() api.Expr { return of(api.ExprCall, name(string(v)), name("self")) }

func (v item) set(value api.Expr) api.Expr {
	return apply("=", primed(string(v)), except(name(string(v)), name("self"), value))
}

// place is where the value of a variable is in a part.
func (s *system) place(p *part, variable string) place {
	if s.isShared(p, variable) || s.concurrent && (variable == "pc" || variable == "stack") {
		return item(variable)
	}
	return alone(variable)
}

// get is the value of a variable in a part.
func (s *system) get(p *part, variable string) api.Expr { return s.place(p, variable).get() }

// set is a variable's new value for an identity.
func (s *system) set(p *part, variable string, value api.Expr) api.Expr {
	return s.place(p, variable).set(value)
}

// members is the set of identities of a process.
func members(p *part) api.Expr {
	if p.In {
		return p.Value
	}
	return of(api.ExprSet, p.Value)
}

// processes are the parts that are processes.
func (s *system) processes() []*part {
	return slices.DeleteFunc(slices.Clone(s.parts), func(p *part) bool { return p.procedure })
}

// unchanged is what some changes, which are already conjuncts, leave: nothing else changes.
func (s *system) unchanged(changed []string, conjuncts []api.Expr) api.Expr {
	var rest []api.Expr
	for _, v := range s.vars {
		if !slices.Contains(changed, v) {
			rest = append(rest, name(v))
		}
	}
	if len(rest) > 0 {
		conjuncts = append(conjuncts, apply("UNCHANGED", of(api.ExprTuple, rest...)))
	}
	return joined(`/\`, conjuncts...)
}
