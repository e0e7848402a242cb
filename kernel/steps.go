package kernel

import (
	"iter"
	"slices"

	"stutter/alike"
	"stutter/api"
	"stutter/exprs"
	"stutter/instance"
	"stutter/linear"
	"stutter/tree"
	"stutter/words"
)

// many stands for at least one premise.
const many = -1

// premises is how many premises each rule has, in the order of the rules.
var premises = [api.RuleKinds]int{0, 1, 0, 1, 2, 1, 1, 1, 1, 3, 1, 2, 1, 2, 1, 2, 1, 1, 0, 2, 1, 1, 1, 1, 1, 2, 1, 1, 1, 1, 0, 1, many}

// known is a sequent, with the keys of its expressions, by which alike ones are the same.
type known struct {
	api.Sequent
	hyps map[string]bool
	goal string
}

// check is a step with what its premises say.
type check struct {
	known
	step api.KernelStep
	from []known
}

// expressions goes through the hypotheses, then the goal.
func expressions(s api.Sequent) iter.Seq2[int, api.Expr] {
	return func(yield func(int, api.Expr) bool) {
		for i, h := range s.Hyps {
			if !yield(i, h) {
				return
			}
		}
		yield(len(s.Hyps), s.Goal)
	}
}

// knownOf returns a sequent with its keys, or its first fault.
func knownOf(s api.Sequent) (known, int, api.Errno) {
	if len(s.Hyps) > api.MaxHyps {
		return known{}, 0, api.ErrLarge
	}
	k := known{Sequent: s, hyps: map[string]bool{}}
	for i, e := range expressions(s) {
		if _, err := tree.CheckExpr(e); err != api.OK {
			return known{}, i, err
		}
		key := alike.Key(e)
		switch {
		case i == len(s.Hyps):
			k.goal = key
		case k.hyps[key]:
			return known{}, i, api.ErrDouble
		default:
			k.hyps[key] = true
		}
	}
	return k, 0, api.OK
}

// within says whether all hypotheses are those of another sequent, but for one that is permitted.
func (k known) within(other known, but string) bool {
	for h := range k.hyps {
		if h != but && !other.hyps[h] {
			return false
		}
	}
	return true
}

// hasFree says whether a name is free in a sequent.
func (k known) hasFree(name string) bool {
	for _, e := range expressions(k.Sequent) {
		if isFree(name, e) {
			return true
		}
	}
	return false
}

func isFree(name string, e api.Expr) bool {
	l, _ := tree.FreeIn(e)
	return slices.Contains(l, name)
}

// checkStep returns the error of what a step names, apart from its sequent.
func checkStep(s api.KernelStep, at int) api.Errno {
	if s.Rule < 0 || s.Rule >= api.RuleKinds {
		return api.ErrKind
	}
	wanted := premises[s.Rule]
	if wanted == many {
		if len(s.From) == 0 || len(s.From) > api.MaxHyps || len(s.Numbers) != len(s.From) {
			return api.ErrShape
		}
	} else if len(s.From) != wanted {
		return api.ErrShape
	}
	for _, f := range s.From {
		if f < 0 || f >= at {
			return api.ErrRange
		}
	}
	named := slices.Contains([]int{api.RuleReplace, api.RuleAll, api.RuleChoose, api.RuleSet}, s.Rule)
	put := slices.Contains([]int{api.RuleReplace, api.RuleInstance, api.RuleWitness}, s.Rule)
	switch {
	case s.Name != "" && !named, len(s.Term) > 0 && !put, len(s.Numbers) > 0 && wanted != many:
		return api.ErrForm
	case named && !words.IsName(s.Name) && (s.Rule != api.RuleSet || s.Name != ""):
		return api.ErrName
	case put:
		_, err := tree.CheckExpr(s.Term)
		return err
	}
	return api.OK
}

// follows says whether what a step says follows from its premises.
func (c check) follows() bool {
	further, right := c.byRule()
	for i, p := range c.from {
		if !right {
			return false
		}
		but := ""
		if i < len(further) {
			but = further[i]
		}
		right = p.within(c.known, but)
	}
	return right
}

// byRule says whether the goals are as the rule wants them, and which further hypothesis each premise may have.
func (c check) byRule() ([3]string, bool) {
	switch {
	case c.step.Rule <= api.RuleFalse, c.step.Rule == api.RuleSame:
		return [3]string{}, c.plain()
	case c.step.Rule <= api.RuleIffRight:
		return c.connective()
	case c.step.Rule <= api.RuleEqual:
		return [3]string{}, c.equation()
	case c.step.Rule <= api.RuleChoose:
		return c.quantifier()
	case c.step.Rule <= api.RuleOpenSome:
		return [3]string{}, c.bounded()
	case c.step.Rule == api.RuleLinear:
		return [3]string{}, c.arithmetic()
	}
	return [3]string{}, c.set()
}

func (c check) plain() bool {
	switch c.step.Rule {
	case api.RuleHyp:
		return c.hyps[c.goal]
	case api.RuleWeaken:
		return c.from[0].goal == c.goal
	case api.RuleTrue:
		return alike.IsWord(c.Goal, "TRUE")
	case api.RuleFalse:
		return alike.IsWord(c.from[0].Goal, "FALSE")
	}
	l, is := parts(c.Goal, "=")
	return is && l[0] == l[1]
}

// parts returns the keys of the operands of an operator (the second one empty if there is one operand), and whether it is one of it.
func parts(e api.Expr, operator string) ([2]string, bool) {
	var out [2]string
	l, is := alike.Parts(e, operator)
	if !is {
		return out, false
	}
	copy(out[:], alike.Keys(l))
	return out, true
}

// are says whether an expression is an operator of operands with the keys.
func are(e api.Expr, operator string, keys ...string) bool {
	l, is := parts(e, operator)
	return is && slices.Equal(l[:len(keys)], keys)
}

func (c check) connective() ([3]string, bool) {
	var further [3]string
	right := false
	goal := func(i int) string { return c.from[i].goal }
	switch c.step.Rule {
	case api.RuleAnd:
		right = are(c.Goal, "/\\", goal(0), goal(1))
	case api.RuleAndLeft, api.RuleAndRight:
		l, is := parts(c.from[0].Goal, "/\\")
		right = is && l[c.step.Rule-api.RuleAndLeft] == c.goal
	case api.RuleOrLeft, api.RuleOrRight:
		l, is := parts(c.Goal, "\\/")
		right = is && l[c.step.Rule-api.RuleOrLeft] == goal(0)
	case api.RuleCases:
		l, is := parts(c.from[0].Goal, "\\/")
		further = [3]string{"", l[0], l[1]}
		right = is && goal(1) == c.goal && goal(2) == c.goal
	case api.RuleImplies:
		l, is := parts(c.Goal, "=>")
		further[0] = l[0]
		right = is && l[1] == goal(0)
	case api.RuleDetach:
		right = are(c.from[0].Goal, "=>", goal(1), c.goal)
	case api.RuleNot:
		l, is := parts(c.Goal, "~")
		further[0] = l[0]
		right = is && alike.IsWord(c.from[0].Goal, "FALSE")
	case api.RuleContradict:
		right = are(c.from[0].Goal, "~", goal(1)) && alike.IsWord(c.Goal, "FALSE")
	case api.RuleClassical:
		further[0] = alike.Key(exprs.Apply("~", c.Goal))
		right = alike.IsWord(c.from[0].Goal, "FALSE")
	case api.RuleIff:
		right = c.equivalent(c.Goal, c.from[0].Goal, c.from[1].Goal)
	case api.RuleIffLeft:
		l, is := parts(c.from[0].Goal, "<=>")
		right = is && are(c.Goal, "=>", l[0], l[1])
	case api.RuleIffRight:
		l, is := parts(c.from[0].Goal, "<=>")
		right = is && are(c.Goal, "=>", l[1], l[0])
	}
	return further, right
}

// equivalent says whether an equivalence is both implications.
func (c check) equivalent(e, there, back api.Expr) bool {
	l, is := parts(e, "<=>")
	return is && are(there, "=>", l[0], l[1]) && are(back, "=>", l[1], l[0])
}

// substituted returns the key of an expression with another one for a name, or nothing if this cannot be done.
func substituted(p api.Expr, name string, by api.Expr) string {
	if isOperator(exprs.Grow(p), name) {
		return ""
	}
	e, err := instance.Substituted(p, api.Substitution{Names: []string{name}, With: []api.Expr{by}})
	if err != api.OK {
		return ""
	}
	return alike.Key(e)
}

// isOperator says whether a name is free as an operator.
func isOperator(t *exprs.Tree, name string) bool {
	if t.Kind == api.ExprApply && t.Text == name {
		return true
	}
	for i, k := range t.Kids {
		if !slices.Contains(t.Binds(i), name) && isOperator(k, name) {
			return true
		}
	}
	return false
}

func (c check) equation() bool {
	premise := c.from[0].Goal
	switch c.step.Rule {
	case api.RuleReplace:
		l, is := alike.Parts(premise, "=")
		return is && substituted(c.step.Term, c.step.Name, l[0]) == c.from[1].goal && substituted(c.step.Term, c.step.Name, l[1]) == c.goal
	case api.RuleUnequal:
		return unequal(c.Goal, premise)
	}
	return unequal(premise, c.Goal)
}

// unequal says whether a # b and ~(a = b) are of the same operands.
func unequal(e, negation api.Expr) bool {
	l, is := parts(e, "#")
	n, not := alike.Parts(negation, "~")
	return is && not && are(n[0], "=", l[0], l[1])
}

// over returns the name and the body of an unbounded quantifier of one name.
func over(e api.Expr, kind int) (string, api.Expr, bool) {
	root := e[len(e)-1]
	if root.Kind != kind || len(root.Names) != 1 {
		return "", nil, false
	}
	return root.Names[0], alike.Operands(e)[0], true
}

func (c check) quantifier() ([3]string, bool) {
	var further [3]string
	whole, kind := c.Goal, api.ExprExists
	switch c.step.Rule {
	case api.RuleAll:
		kind = api.ExprAny
	case api.RuleInstance:
		whole, kind = c.from[0].Goal, api.ExprAny
	case api.RuleChoose:
		whole = c.from[0].Goal
	}
	x, p, is := over(whole, kind)
	if !is {
		return further, false
	}
	name := exprs.Name(c.step.Name)
	switch c.step.Rule {
	case api.RuleAll:
		return further, substituted(p, x, name) == c.from[0].goal && !c.hasFree(c.step.Name)
	case api.RuleInstance:
		return further, substituted(p, x, c.step.Term) == c.goal
	case api.RuleWitness:
		return further, substituted(p, x, c.step.Term) == c.from[0].goal
	}
	further[1] = substituted(p, x, name)
	return further, further[1] != "" && c.from[1].goal == c.goal && !c.hasFree(c.step.Name) && !isFree(c.step.Name, whole)
}

// bounded says whether a quantifier over a set and one over all are the same.
func (c check) bounded() bool {
	wide, narrow := c.from[0].Goal, c.goal
	if c.step.Rule == api.RuleOpenAll || c.step.Rule == api.RuleOpenSome {
		wide, narrow = c.Goal, c.from[0].goal
	}
	kind, operator, closed := api.ExprAny, "=>", all
	if c.step.Rule == api.RuleBoundSome || c.step.Rule == api.RuleOpenSome {
		kind, operator, closed = api.ExprExists, "/\\", some
	}
	x, p, is := over(wide, kind)
	if !is {
		return false
	}
	l, is := alike.Parts(p, operator)
	if !is {
		return false
	}
	in, is := alike.Parts(l[0], "\\in")
	return is && alike.IsWord(in[0], x) && !isFree(x, in[1]) && alike.Key(closed(x, in[1], l[1])) == narrow
}

func (c check) set() bool {
	if c.step.Rule == api.RuleSet {
		l, is := alike.Parts(c.Goal, "<=>")
		if !is {
			return false
		}
		e, err := MeaningOf(l[0], c.step.Name)
		return err == api.OK && alike.Key(e) == alike.Key(l[1])
	}
	x, p, is := over(c.from[0].Goal, api.ExprAny)
	if !is {
		return false
	}
	both, is := alike.Parts(p, "<=>")
	if !is {
		return false
	}
	var sets []string
	for _, e := range both {
		in, is := alike.Parts(e, "\\in")
		if !is || !alike.IsWord(in[0], x) || isFree(x, in[1]) {
			return false
		}
		sets = append(sets, alike.Key(in[1]))
	}
	return are(c.Goal, "=", sets...)
}

func (c check) arithmetic() bool {
	if slices.ContainsFunc(c.step.Numbers, outside) {
		return false
	}
	var l []api.Expr
	for _, p := range c.from {
		l = append(l, p.Goal)
	}
	return linear.Follows(l, c.step.Numbers, c.Goal)
}
