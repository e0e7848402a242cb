package proof

import (
	"maps"
	"slices"

	"stutter/alike"
	"stutter/api"
	"stutter/exprs"
	"stutter/instance"
	"stutter/tree"
)

// state is what is known before a step.
type state struct {
	goal  api.Expr
	facts map[string]api.Expr
	defs  []api.Def
	used  []api.Expr
	taken []string
}

func (s *state) clone() *state {
	return &state{s.goal, maps.Clone(s.facts), slices.Clone(s.defs), slices.Clone(s.used), slices.Clone(s.taken)}
}

// use makes an expression used, unless one that is alike is already.
func (s *state) use(e api.Expr) {
	if place(s.used, e) < 0 {
		s.used = append(s.used, e)
	}
}

// hide takes away what is alike.
func (s *state) hide(e api.Expr) {
	if at := place(s.used, e); at >= 0 {
		s.used = slices.Delete(slices.Clone(s.used), at, at+1)
	}
}

// place returns where an expression stands in a list, up to alike ones, or None.
func place(l []api.Expr, e api.Expr) int {
	return slices.Index(alike.Keys(l), alike.Key(e))
}

// walker goes through a proof; before is called before each step.
type walker struct {
	before      func(path []int, s *state)
	theorem     api.Theorem
	path        []int
	obligations []api.Obligation
}

// walked goes through a whole proof, and returns what it asks for, or the path and the error of the first step that is wrong.
func walked(t api.Theorem, l []api.Step, before func([]int, *state)) (*walker, []int, api.Errno) {
	if err := CheckTheorem(t); err != api.OK {
		return nil, nil, err
	}
	if path, err := CheckSteps(l); err != api.OK {
		return nil, path, err
	}
	w := &walker{before: before, theorem: t}
	s := &state{goal: t.Goal, facts: map[string]api.Expr{}, defs: slices.Clone(t.Defs)}
	for _, f := range t.Facts {
		s.facts[f.Name] = f.Expr
	}
	path, err := caught(func() { w.level(s, l) })
	return w, path, err
}

// must ends the walk at the step where it is, unless there is no error.
func (w *walker) must(err api.Errno) {
	if err != api.OK {
		panic(failure{slices.Clone(w.path), err})
	}
}

func (w *walker) level(s *state, l []api.Step) {
	for i, step := range l {
		w.path = append(w.path, i)
		w.step(s, step)
		w.path = w.path[:len(w.path)-1]
	}
}

// made is what a step makes: what it asks for and what may be used for that besides, the next goal, what is used and what is a fact from then on.
type made struct {
	asked, goal, fact api.Expr
	besides, used     []api.Expr
}

func (w *walker) step(s *state, step api.Step) {
	w.before(w.path, s)
	if _, is := s.facts[step.Label]; is {
		w.must(api.ErrExists)
	}
	name := step.Name
	if step.Kind == api.StepDefine {
		name = step.Def.Name
	}
	if name != "" && !w.isNew(s, name, step.Set) {
		w.must(api.ErrExists)
	}
	x, body, fits := opened(s.goal, step)
	if !fits {
		w.must(api.ErrProof)
	}
	w.checkNames(s, step)
	m := w.make(s, step, x, body)
	if asks(step) {
		inner := s.clone()
		inner.goal = m.asked
		for _, e := range m.besides {
			inner.use(e)
		}
		if step.Proof == api.ProofSteps {
			if name != "" {
				inner.taken = append(inner.taken, name)
			}
			w.level(inner, step.Steps)
		} else {
			w.oblige(inner, step)
		}
	}
	s.after(step, m, name)
}

// after changes what is known by what a step makes.
func (s *state) after(step api.Step, m made, name string) {
	s.goal = m.goal
	for _, e := range m.used {
		s.use(e)
	}
	if len(m.fact) > 0 && step.Label != "" {
		s.facts[step.Label] = m.fact
	}
	if name != "" {
		s.taken = append(s.taken, name)
	}
	switch step.Kind {
	case api.StepUse:
		for _, f := range step.Facts {
			s.use(s.facts[f])
		}
	case api.StepHide:
		for _, f := range step.Facts {
			s.hide(s.facts[f])
		}
	case api.StepDefine:
		s.defs = append(s.defs, step.Def)
	}
}

func isFree(name string, e api.Expr) bool {
	l, _ := tree.FreeIn(e)
	return slices.Contains(l, name)
}

// isNew says whether a name means nothing yet.
func (w *walker) isNew(s *state, name string, set api.Expr) bool {
	if slices.Contains(s.taken, name) {
		return false
	}
	l := append([]api.Expr{w.theorem.Goal, s.goal, set}, s.used...)
	for _, f := range w.theorem.Facts {
		l = append(l, f.Expr)
	}
	for _, e := range s.facts {
		l = append(l, e)
	}
	for _, d := range s.defs {
		if d.Name == name {
			return false
		}
		if !slices.Contains(d.Params, name) {
			l = append(l, d.Body)
		}
	}
	return !slices.ContainsFunc(l, func(e api.Expr) bool { return isFree(name, e) })
}

// opened returns the name and the body of a goal that is as a step wants it (of an implication the right side), and whether it is so.
func opened(goal api.Expr, step api.Step) (string, api.Expr, bool) {
	kind, wide := api.ExprAll, api.ExprAny
	switch step.Kind {
	case api.StepHave:
		l, is := alike.Parts(goal, "=>")
		if !is || alike.Key(l[0]) != alike.Key(step.Expr) {
			return "", nil, false
		}
		return "", l[1], true
	case api.StepTake:
	case api.StepWitness:
		kind, wide = api.ExprSome, api.ExprExists
	default:
		return "", nil, true
	}
	if len(step.Set) == 0 {
		kind = wide
	}
	root := goal[len(goal)-1]
	if root.Kind != kind || len(root.Names) != 1 {
		return "", nil, false
	}
	l := alike.Operands(goal)
	if kind != wide && alike.Key(l[0]) != alike.Key(step.Set) {
		return "", nil, false
	}
	return root.Names[0], l[len(l)-1], true
}

func (w *walker) checkNames(s *state, step api.Step) {
	for _, l := range [][]string{step.Facts, step.By} {
		for _, f := range l {
			if _, is := s.facts[f]; !is {
				w.must(api.ErrMissing)
			}
		}
	}
	for _, name := range step.Defs {
		if !slices.ContainsFunc(s.defs, func(d api.Def) bool { return d.Name == name }) {
			w.must(api.ErrMissing)
		}
	}
}

// checked returns an expression, unless it has an error.
func (w *walker) checked(e api.Expr) api.Expr {
	_, err := tree.CheckExpr(e)
	w.must(err)
	return e
}

// put returns a body with an expression for a name.
func (w *walker) put(body api.Expr, x string, by api.Expr) api.Expr {
	e, err := instance.Substituted(body, api.Substitution{Names: []string{x}, With: []api.Expr{by}})
	w.must(err)
	return e
}

func (w *walker) make(s *state, step api.Step, x string, body api.Expr) made {
	m := made{asked: s.goal, goal: s.goal}
	member := func(e api.Expr) []api.Expr {
		if len(step.Set) == 0 {
			return nil
		}
		return []api.Expr{w.checked(exprs.Apply("\\in", e, step.Set))}
	}
	switch step.Kind {
	case api.StepAssert:
		m.asked, m.fact = step.Expr, step.Expr
	case api.StepSuffices:
		m.besides, m.goal = []api.Expr{step.Expr}, step.Expr
	case api.StepHave:
		l, _ := alike.Parts(s.goal, "=>")
		m.used, m.goal = l[:1], body
	case api.StepTake:
		m.goal = w.put(body, x, exprs.Name(step.Name))
		m.used = member(exprs.Name(step.Name))
	case api.StepWitness:
		m.goal = w.put(body, x, step.Expr)
		for _, e := range member(step.Expr) {
			m.asked = e
		}
	case api.StepPick:
		m.used = append(member(exprs.Name(step.Name)), step.Expr)
		node := api.Node{Kind: api.ExprExists, Names: []string{step.Name}}
		if len(step.Set) > 0 {
			node.Kind = api.ExprSome
			m.asked = w.checked(exprs.Make(node, step.Set, step.Expr))
		} else {
			m.asked = w.checked(exprs.Make(node, step.Expr))
		}
	case api.StepCase:
		m.besides = []api.Expr{step.Expr}
		m.fact = w.checked(exprs.Apply("=>", step.Expr, s.goal))
	}
	return m
}

// oblige adds the sequent of a proof that is none by steps.
func (w *walker) oblige(s *state, step api.Step) {
	var defs []api.Def
	for _, d := range s.defs {
		if slices.Contains(step.Defs, d.Name) {
			defs = append(defs, d)
		}
	}
	l := slices.Clone(s.used)
	for _, f := range step.By {
		l = append(l, s.facts[f])
	}
	o := api.Obligation{Path: slices.Clone(w.path), Omitted: step.Proof == api.ProofOmitted}
	for _, e := range l {
		e = w.expanded(defs, e)
		if place(o.Sequent.Hyps, e) < 0 {
			o.Sequent.Hyps = append(o.Sequent.Hyps, e)
		}
	}
	o.Sequent.Goal = w.expanded(defs, s.goal)
	if len(o.Sequent.Hyps) > api.MaxHyps {
		w.must(api.ErrLarge)
	}
	w.obligations = append(w.obligations, o)
}

// expanded returns an expression in which definitions are expanded, in new memory.
func (w *walker) expanded(defs []api.Def, e api.Expr) api.Expr {
	if len(defs) == 0 {
		return exprs.Clone(e)
	}
	out, err := instance.ExpandedBy(defs, e)
	w.must(err)
	return out
}
