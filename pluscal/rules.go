package pluscal

import (
	"maps"
	"slices"

	"stutter/api"
)

// ruler looks at the labels and the assignments of a part.
type ruler struct {
	*checker
	part
}

// assigned is variables that were assigned in a step.
type assigned map[string]bool

// with is a set with further variables.
func (a assigned) with(names ...string) assigned {
	out := maps.Clone(a)
	for _, n := range names {
		out[n] = true
	}
	return out
}

// checkRules looks at the rules of labels that concern lists of statements.
func (c *checker) checkRules(p part) {
	r := &ruler{c, p}
	nodes := p.nodes()
	needs := map[*node]bool{}
	if p.kind != partMacro {
		needs[nodes[0]] = true
	}
	r.needed(nodes, needs)
	r.list(nodes, assigned{}, needs)
}

// leaves says whether a statement contains a label, or goes elsewhere.
func leaves(n *node) bool {
	found := false
	each([]*node{n}, nil, func(m *node, _ []*node) {
		jump := m.Kind == api.PlusGoto || m.Kind == api.PlusCall || m.Kind == api.PlusReturn
		found = found || jump || m != n && m.Label != ""
	})
	return found
}

// needed finds the statements that must have a label.
func (r *ruler) needed(l []*node, needs map[*node]bool) {
	for i, n := range l {
		if n.Kind == api.PlusWhile {
			needs[n] = true
		}
		if i+1 < len(l) && n.Kind != api.PlusWhile && leaves(n) {
			needs[l[i+1]] = true
		}
		for _, b := range n.blocks {
			r.needed(b, needs)
		}
	}
}

// list goes through a list, and returns what is assigned behind it.
func (r *ruler) list(l []*node, before assigned, needs map[*node]bool) assigned {
	for _, n := range l {
		at := api.PlusPlace{Part: r.name, Stmt: n.number}
		fail(needs[n] && n.Label == "", api.ErrOrder, at)
		if n.Label != "" {
			before = assigned{}
		}
		before = r.statement(n, before, needs, at)
	}
	return before
}

// statement returns what is assigned behind a statement.
func (r *ruler) statement(n *node, before assigned, needs map[*node]bool, at api.PlusPlace) assigned {
	switch n.Kind {
	case api.PlusAssign:
		return r.assign(n.Targets, before, nil, at)
	case api.PlusCall, api.PlusReturn:
		names := r.frame(n)
		fail(slices.ContainsFunc(names, func(name string) bool { return before[name] }), api.ErrDouble, at)
		return before.with(names...)
	case api.PlusUse:
		return r.use(n, before, at)
	case api.PlusWhile:
		r.list(n.blocks[0], assigned{}, needs)
		return before
	case api.PlusWith:
		return r.list(n.blocks[0], before, needs)
	case api.PlusIf, api.PlusEither:
		out := before
		for _, b := range n.blocks {
			out = out.with(slices.Collect(maps.Keys(r.list(b, before, needs)))...)
		}
		return out
	}
	return before
}

// frame is the parameters and variables that a PlusCall or a PlusReturn assigns.
func (r *ruler) frame(n *node) []string {
	if n.Kind == api.PlusReturn {
		return r.names()
	}
	i := slices.IndexFunc(r.Procedures, func(p api.PlusProcedure) bool { return p.Name == n.Name })
	p := r.Procedures[i]
	return part{params: p.Params, vars: p.Vars}.names()
}

// names are the parameters and variables of the part; the algorithm has names, too.
func (r *ruler) names() []string { return r.part.names() }

// assign looks at the targets of an assignment; a macro's parameters are other variables.
func (r *ruler) assign(l []api.PlusTarget, before assigned, by map[string]string, at api.PlusPlace) assigned {
	whole := map[string]bool{}
	count := map[string]int{}
	var names []string
	for _, t := range l {
		name := t.Name
		if to, is := by[name]; is {
			name = to
		}
		fail(before[name], api.ErrDouble, at)
		count[name]++
		whole[name] = whole[name] || t.Field == "" && len(t.Index) == 0
		fail(count[name] > 1 && whole[name], api.ErrDouble, at)
		names = append(names, name)
	}
	return before.with(names...)
}

// use goes through the statements of a macro, with its arguments.
func (r *ruler) use(n *node, before assigned, at api.PlusPlace) assigned {
	m := r.Macros[slices.IndexFunc(r.Macros, func(m api.PlusMacro) bool { return m.Name == n.Name })]
	by := map[string]string{}
	for i, p := range m.Params {
		by[p] = ""
		if e := n.Exprs[i]; len(e) == 1 && e[0].Kind == api.ExprName {
			by[p] = e[0].Text
		}
	}
	count := 0
	var list func(l []*node, before assigned) assigned
	list = func(l []*node, before assigned) assigned {
		for _, s := range l {
			out := before
			switch s.Kind {
			case api.PlusAssign:
				out = r.assign(s.Targets, before, by, at)
			default:
				for _, b := range s.blocks {
					out = out.with(slices.Collect(maps.Keys(list(b, before)))...)
				}
			}
			before = out
		}
		return before
	}
	return list(grown(m.Body, &count), before)
}

// LabelsOf returns all labels, in the order of parts and statements.
func LabelsOf(a api.Algorithm) ([]string, api.Errno) {
	if _, err := CheckAlgorithm(a); err != api.OK {
		return nil, err
	}
	var out []string
	for _, p := range partsOf(a) {
		each(p.nodes(), nil, func(n *node, _ []*node) {
			if n.Label != "" {
				out = append(out, n.Label)
			}
		})
	}
	return out, api.OK
}

// StatementAt returns the statement at a place.
func StatementAt(a api.Algorithm, at api.PlusPlace) (api.PlusStmt, api.Errno) {
	if _, err := CheckAlgorithm(a); err != api.OK {
		return api.PlusStmt{}, err
	}
	var found *node
	for _, p := range partsOf(a) {
		each(p.nodes(), nil, func(n *node, _ []*node) {
			if p.name == at.Part && n.number == at.Stmt {
				found = n
			}
		})
	}
	if found == nil {
		return api.PlusStmt{}, api.ErrMissing
	}
	return cloneStmt(found.PlusStmt), api.OK
}

// flow finds what may be assigned from a statement on, up to the next labels.
type flow struct {
	*ruler
	seen map[*node]bool
	out  assigned
}

// to goes on to a statement, unless a label is there.
func (f *flow) to(n *node) {
	if n != nil && n.Label == "" {
		f.from(n)
	}
}

// from goes through a statement, and on behind it.
func (f *flow) from(n *node) {
	if f.seen[n] {
		return
	}
	f.seen[n] = true
	switch n.Kind {
	case api.PlusAssign:
		for _, t := range n.Targets {
			f.out[t.Name] = true
		}
	case api.PlusUse:
		for name := range f.use(n, assigned{}, api.PlusPlace{}) {
			f.out[name] = true
		}
	case api.PlusCall, api.PlusReturn:
		for _, name := range f.frame(n) {
			f.out[name] = true
		}
		return
	case api.PlusGoto:
		return
	}
	open := n.Kind == api.PlusWhile || len(n.blocks) == 0
	for _, b := range n.blocks {
		if len(b) == 0 {
			open = true
		} else {
			f.to(b[0])
		}
	}
	if open {
		f.to(n.after)
	}
}

// AssignedIn returns the variables that may be assigned in the step from a label on.
func AssignedIn(a api.Algorithm, label string) ([]string, api.Errno) {
	if _, err := CheckAlgorithm(a); err != api.OK {
		return nil, err
	}
	for _, p := range partsOf(a) {
		var begin *node
		each(p.nodes(), nil, func(n *node, _ []*node) {
			if n.Label == label && label != "" {
				begin = n
			}
		})
		if begin == nil {
			continue
		}
		f := &flow{&ruler{&checker{Algorithm: a}, p}, map[*node]bool{}, assigned{}}
		f.from(begin)
		return slices.Sorted(maps.Keys(f.out)), api.OK
	}
	return nil, api.ErrMissing
}
