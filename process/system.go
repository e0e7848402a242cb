package process

import (
	"slices"

	"stutter/api"
	"stutter/eval"
	"stutter/pluscal"
	"stutter/statements"
	"stutter/tree"
	"stutter/values"
)

// part is a process, a procedure, or the body: its nodes by their labels, its variables, and what comes at its end.
type part struct {
	name   string
	first  string
	labels map[string]*statements.Node
	params []string
	vars   []api.PlusVar
	end    string
	in     bool // a process with In
}

func partOf(name string, params []string, vars []api.PlusVar, body []api.PlusStmt, end string) *part {
	p := &part{name: name, params: params, vars: vars, end: end, labels: map[string]*statements.Node{}, first: body[0].Label}
	statements.Labelled(statements.Grown(body), p.labels)
	return p
}

// frame is the parameters and variables of a part.
func (p *part) frame() []string {
	out := slices.Clone(p.params)
	for _, v := range p.vars {
		out = append(out, v.Name)
	}
	return out
}

// variable is a variable of the program: how it begins, how it is kept, and the part whose own it is (nil: none).
type variable struct {
	api.PlusVar
	keeping
	own   *part
	whole bool // pc and stack are never known by their values for an identity
}

// identity is what runs: its value, and its process.
type identity struct {
	self api.Value
	part *part
}

// system is a valid program.
type system struct {
	api.Algorithm
	constants  []api.Binding
	procedures []*part
	identities []identity
	vars       []variable
	concurrent bool // with processes
}

// none is the value of a variable that begins without one.
const none = "defaultInitValue"

// namesOf are all names of an algorithm.
func namesOf(a api.Algorithm) []string {
	var out []string
	vars := func(l []api.PlusVar) {
		for _, v := range l {
			out = append(out, v.Name)
		}
	}
	vars(a.Vars)
	for _, d := range a.Defs {
		out = append(out, d.Name)
	}
	for _, m := range a.Macros {
		out = append(out, m.Name)
	}
	for _, p := range a.Procedures {
		out = append(append(out, p.Name), p.Params...)
		vars(p.Vars)
	}
	for _, p := range a.Processes {
		out = append(out, p.Name)
		vars(p.Vars)
	}
	return out
}

// boundBy are the names that PlusWiths bind.
func boundBy(l []api.PlusStmt) []string {
	var out []string
	for _, s := range l {
		if s.Kind == api.PlusWith {
			out = append(out, s.Name)
		}
		for _, b := range s.Blocks {
			out = append(out, boundBy(b)...)
		}
	}
	return out
}

// boundIn are the names that PlusWiths bind in any part of an algorithm, in its macros, too.
func boundIn(a api.Algorithm) []string {
	out := boundBy(a.Body)
	for _, m := range a.Macros {
		out = append(out, boundBy(m.Body)...)
	}
	for _, p := range a.Procedures {
		out = append(out, boundBy(p.Body)...)
	}
	for _, p := range a.Processes {
		out = append(out, boundBy(p.Body)...)
	}
	return out
}

// checkConstants looks at the names of constants, and at those in definitions.
func checkConstants(p api.PlusProgram) api.Errno {
	a := p.Algorithm
	taken := slices.Concat(namesOf(a), boundIn(a), []string{"self", "pc", "stack", none})
	known := []string{"Nat", "Int", "Seq"}
	for _, b := range p.Constants {
		if slices.Contains(taken, b.Name) {
			return api.ErrExists
		}
		known = append(known, b.Name)
	}
	for _, v := range a.Vars {
		known = append(known, v.Name)
	}
	for _, d := range a.Defs {
		known = append(known, d.Name)
	}
	for _, d := range a.Defs {
		free, _ := tree.FreeIn(d.Body)
		for _, name := range free {
			if !slices.Contains(known, name) && !slices.Contains(d.Params, name) {
				return api.ErrMissing
			}
		}
	}
	return api.OK
}

// systemOf prepares a program, or returns its error.
func systemOf(p api.PlusProgram) (*system, api.Errno) {
	a, err := pluscal.Expanded(p.Algorithm)
	if err != api.OK {
		return nil, err
	}
	if _, err := eval.CheckContext(api.Context{Values: p.Constants, Defs: a.Defs}); err != api.OK {
		return nil, err
	}
	if err := checkConstants(p); err != api.OK {
		return nil, err
	}
	s := &system{Algorithm: a, constants: p.Constants, concurrent: len(a.Processes) > 0}
	for _, q := range a.Procedures {
		s.procedures = append(s.procedures, partOf(q.Name, q.Params, q.Vars, q.Body, "Error"))
	}
	var processes []*part
	for _, q := range a.Processes {
		x := partOf(q.Name, nil, q.Vars, q.Body, "Done")
		x.in = q.In
		processes = append(processes, x)
	}
	s.declare(processes)
	if len(s.vars) > api.MaxVars {
		return nil, api.ErrLarge
	}
	if err := s.identify(processes); err != api.OK {
		return nil, err
	}
	s.share(processes)
	return s, api.OK
}

// declare lists the variables, in their order.
func (s *system) declare(processes []*part) {
	for _, v := range s.Vars {
		s.vars = append(s.vars, variable{PlusVar: v, keeping: asItIs{}})
	}
	s.vars = append(s.vars, variable{PlusVar: api.PlusVar{Name: "pc"}, keeping: asItIs{}, whole: true})
	if len(s.procedures) > 0 {
		s.vars = append(s.vars, variable{PlusVar: api.PlusVar{Name: "stack"}, keeping: asItIs{}, whole: true})
	}
	for _, p := range slices.Concat(s.procedures, processes) {
		for _, name := range p.params {
			s.vars = append(s.vars, variable{PlusVar: api.PlusVar{Name: name}, keeping: asItIs{}, own: p})
		}
		for _, v := range p.vars {
			s.vars = append(s.vars, variable{PlusVar: v, keeping: asItIs{}, own: p})
		}
	}
}

// identify finds the identities.
func (s *system) identify(processes []*part) api.Errno {
	if !s.concurrent {
		s.identities = []identity{{values.Tuple(), partOf("", nil, nil, s.Body, "Done")}}
		return api.OK
	}
	for i, p := range processes {
		r, err := eval.ValueOf(api.Context{Values: s.constants, Defs: s.Defs}, s.Processes[i].Value)
		if err != api.OK {
			return err
		}
		members := []api.Value{r.Value}
		if p.in {
			if r.Value.Kind != api.ValueSet {
				return api.ErrType
			}
			members = r.Value.Items
		}
		for _, v := range members {
			s.identities = append(s.identities, identity{v, p})
		}
	}
	if len(s.identities) > api.MaxIdentities {
		return api.ErrLarge
	}
	if len(s.identities) == 0 {
		return api.ErrEmpty
	}
	for i, x := range s.identities {
		if slices.ContainsFunc(s.identities[:i], func(y identity) bool { return values.Same(x.self, y.self) }) {
			return api.ErrExists
		}
	}
	return api.OK
}

// share tells variables on which identities they are functions.
func (s *system) share(processes []*part) {
	if !s.concurrent {
		return
	}
	for i := range s.vars {
		v := &s.vars[i]
		process := slices.Contains(processes, v.own)
		if v.own == nil && !v.whole || process && !v.own.in {
			continue
		}
		var on onIdentities
		for _, x := range s.identities {
			if !process || x.part == v.own {
				on = append(on, x.self)
			}
		}
		v.keeping = on
	}
}

// find returns the identity with a value.
func (s *system) find(self api.Value) (identity, bool) {
	i := slices.IndexFunc(s.identities, func(x identity) bool { return values.Same(x.self, self) })
	if i < 0 {
		return identity{}, false
	}
	return s.identities[i], true
}

// indexOf is the number of a variable.
func (s *system) indexOf(name string) int {
	return slices.IndexFunc(s.vars, func(v variable) bool { return v.Name == name })
}

// context is that of expressions in a part, for an identity, in a state that may have the first variables alone. All says that variables of procedures are known, too.
func (s *system) context(state api.State, x identity, in *part, bound []api.Binding, all bool) api.Context {
	c := api.Context{Values: slices.Clone(s.constants), Defs: s.Defs}
	for i, value := range state {
		v := s.vars[i]
		known := v.own != nil && (v.own == in || all && slices.Contains(s.procedures, v.own))
		if known {
			value = v.at(value, x.self)
		}
		c.Values = append(c.Values, api.Binding{Name: v.Name, Value: value})
	}
	if s.concurrent {
		c.Values = append(c.Values, api.Binding{Name: "self", Value: x.self})
	}
	c.Values = append(c.Values, bound...)
	return c
}
