package explain

import (
	"slices"

	"stutter/action"
	"stutter/api"
	"stutter/exprs"
	"stutter/value"
	"stutter/values"
)

// scene is where a formula is evaluated; the names of quantifiers around a place are further constants there.
type scene struct {
	spec    api.Spec
	step    api.StatePair
	oneOnly bool
	whole   api.Expr
}

func (c scene) truth(node int) (bool, api.Errno) {
	e := exprs.Part(c.whole, node)
	if c.oneOnly {
		holds, _, err := action.HoldsAt(c.spec, c.step.From, e)
		return holds, err
	}
	holds, _, err := action.HoldsFor(c.spec, c.step, e)
	return holds, err
}

// shape is which reasons a formula with a value needs: all of its candidates, or one of them.
type shape struct {
	candidates []int
	values     []bool // of each candidate: the value that it must have
	all        bool
	quantified bool
}

// shapeOf returns the shape of the reasons of a node.
func (c scene) shapeOf(node int, is bool) (shape, api.Errno) {
	n := c.whole[node]
	switch n.Kind {
	case api.ExprAll, api.ExprSome:
		if is == (n.Kind == api.ExprSome) {
			return shape{candidates: n.Args[len(n.Args)-1:], values: []bool{is}, quantified: true}, api.OK
		}
	case api.ExprApply:
		return c.connective(n, is)
	case api.ExprIf:
		holds, err := c.truth(n.Args[0])
		if err != api.OK {
			return shape{}, err
		}
		branch := n.Args[2]
		if holds {
			branch = n.Args[1]
		}
		return shape{candidates: []int{n.Args[0], branch}, values: []bool{holds, is}, all: true}, api.OK
	case api.ExprBox, api.ExprAngle:
		holds, err := c.truth(n.Args[0])
		if err != api.OK || holds != is {
			return shape{}, err
		}
		return shape{candidates: n.Args[:1], values: []bool{is}, all: true}, api.OK
	}
	return shape{}, api.OK
}

// connective returns the shape of a node with an operator.
func (c scene) connective(n api.Node, is bool) (shape, api.Errno) {
	switch n.Text {
	case "/\\", "\\/":
		return shape{candidates: n.Args, values: []bool{is, is}, all: is == (n.Text == "/\\")}, api.OK
	case "=>":
		return shape{candidates: n.Args, values: []bool{!is, is}, all: !is}, api.OK
	case "~":
		return shape{candidates: n.Args, values: []bool{!is}, all: true}, api.OK
	case "<=>":
		first, err := c.truth(n.Args[0])
		return shape{candidates: n.Args, values: []bool{first, first == is}, all: true}, err
	}
	return shape{}, api.OK
}

// reason returns the reason of a node that has a value.
func (c scene) reason(node int, is bool) (api.Reason, api.Errno) {
	r := api.Reason{Node: node, True: is}
	sh, err := c.shapeOf(node, is)
	if err != api.OK {
		return api.Reason{}, err
	}
	if sh.quantified {
		return c.quantified(r, sh.candidates[0])
	}
	for i, k := range sh.candidates {
		holds, err := c.truth(k)
		if err != api.OK {
			return api.Reason{}, err
		}
		if holds != sh.values[i] {
			continue
		}
		p, err := c.reason(k, holds)
		if err != api.OK {
			return api.Reason{}, err
		}
		r.Parts = append(r.Parts, p)
		if !sh.all {
			break
		}
	}
	return r, api.OK
}

// quantified adds the first members that decide, and the reason of the body for them.
func (c scene) quantified(r api.Reason, body int) (api.Reason, api.Errno) {
	sets, err := c.setsOf(r.Node)
	if err != api.OK {
		return api.Reason{}, err
	}
	members := make([]api.Value, len(sets))
	var decide func(i int) (bool, api.Errno)
	decide = func(i int) (bool, api.Errno) {
		if i == len(sets) {
			holds, err := c.within(r.Node, members).truth(body)
			return err == api.OK && holds == r.True, err
		}
		for _, v := range sets[i] {
			members[i] = v
			if found, err := decide(i + 1); found || err != api.OK {
				return found, err
			}
		}
		return false, api.OK
	}
	if _, err := decide(0); err != api.OK {
		return api.Reason{}, err
	}
	p, err := c.within(r.Node, members).reason(body, r.True)
	if err != api.OK {
		return api.Reason{}, err
	}
	r.Members, r.Parts = values.CloneAll(members), []api.Reason{p}
	return r, api.OK
}

// within is a scene in which the names of a quantifier have values.
func (c scene) within(node int, members []api.Value) scene {
	c.spec.Constants = slices.Clone(c.spec.Constants)
	for i, name := range c.whole[node].Names {
		c.spec.Constants = append(c.spec.Constants, api.Binding{Name: name, Value: members[i]})
	}
	return c
}

// setsOf returns the members of a quantifier's sets, if its names can be constants.
func (c scene) setsOf(node int) ([][]api.Value, api.Errno) {
	n := c.whole[node]
	if slices.ContainsFunc(n.Names, c.isTaken) {
		return nil, api.ErrCapture
	}
	if len(c.spec.Constants)+len(n.Names) > api.MaxConstants {
		return nil, api.ErrLarge
	}
	var sets [][]api.Value
	for _, k := range n.Args[:len(n.Args)-1] {
		step := c.step
		if c.oneOnly {
			step.To = step.From
		}
		v, _, err := action.ValueAt(c.spec, step, exprs.Part(c.whole, k))
		if err != api.OK {
			return nil, err
		}
		l, err := value.Members(v)
		if err != api.OK {
			return nil, err
		}
		sets = append(sets, l)
	}
	return sets, api.OK
}

// isTaken is whether a name stands for something; the names of quantifiers around are constants of the scene.
func (c scene) isTaken(name string) bool {
	return name == "Nat" || name == "Int" || name == "Seq" || slices.Contains(c.spec.Vars, name) ||
		slices.ContainsFunc(c.spec.Constants, func(b api.Binding) bool { return b.Name == name }) ||
		slices.ContainsFunc(c.spec.Defs, func(d api.Def) bool { return d.Name == name })
}

// WhyState returns the reason of a formula for a state.
func WhyState(s api.Spec, e api.Expr, at api.State) (api.Reason, api.Errno) {
	return why(scene{spec: s, step: api.StatePair{From: at}, oneOnly: true, whole: e}, at)
}

// WhyStep returns the reason of a formula for a step.
func WhyStep(s api.Spec, e api.Expr, step api.StatePair) (api.Reason, api.Errno) {
	return why(scene{spec: s, step: step, whole: e}, step.From, step.To)
}

func (c scene) err(states ...api.State) api.Errno {
	if err := specError(c.spec); err != api.OK {
		return err
	}
	if err := statesError(c.spec, states...); err != api.OK {
		return err
	}
	return exprError(c.whole)
}

func why(c scene, states ...api.State) (api.Reason, api.Errno) {
	if err := c.err(states...); err != api.OK {
		return api.Reason{}, err
	}
	root := len(c.whole) - 1
	is, err := c.truth(root)
	if err != api.OK {
		return api.Reason{}, err
	}
	return c.reason(root, is)
}

// CheckReason accepts reasons of a formula for a step.
func CheckReason(s api.Spec, e api.Expr, step api.StatePair, r api.Reason) api.Errno {
	c := scene{spec: s, step: step, whole: e}
	if err := c.err(step.From, step.To); err != api.OK {
		return err
	}
	if isLarge(r) {
		return api.ErrLarge
	}
	if r.Node != len(e)-1 || !c.accepts(r) {
		return api.ErrProof
	}
	return api.OK
}

// accepts is whether a reason of a node explains it.
func (c scene) accepts(r api.Reason) bool {
	is, err := c.truth(r.Node)
	if err != api.OK || is != r.True {
		return false
	}
	sh, err := c.shapeOf(r.Node, is)
	if err != api.OK || sh.quantified != (len(r.Members) > 0) {
		return false
	}
	if len(sh.candidates) == 0 {
		return len(r.Parts) == 0
	}
	if sh.all {
		return len(r.Parts) == len(sh.candidates) && c.acceptsAll(r.Parts, sh)
	}
	if len(r.Parts) != 1 {
		return false
	}
	i := slices.Index(sh.candidates, r.Parts[0].Node)
	if i < 0 || r.Parts[0].True != sh.values[i] {
		return false
	}
	if sh.quantified {
		return c.areMembers(r) && c.within(r.Node, r.Members).accepts(r.Parts[0])
	}
	return c.accepts(r.Parts[0])
}

func (c scene) acceptsAll(parts []api.Reason, sh shape) bool {
	for i, p := range parts {
		if p.Node != sh.candidates[i] || p.True != sh.values[i] || !c.accepts(p) {
			return false
		}
	}
	return true
}

func (c scene) areMembers(r api.Reason) bool {
	sets, err := c.setsOf(r.Node)
	if err != api.OK || len(sets) != len(r.Members) {
		return false
	}
	for i, v := range r.Members {
		if value.CheckValue(v) != api.OK || !values.Has(sets[i], v) {
			return false
		}
	}
	return true
}

// NodesIn returns the leaves of a reason.
func NodesIn(r api.Reason) ([]int, api.Errno) {
	if isLarge(r) {
		return nil, api.ErrLarge
	}
	res := leaves(r)
	slices.Sort(res)
	return slices.Compact(res), api.OK
}

func leaves(r api.Reason) []int {
	if len(r.Parts) == 0 {
		return []int{r.Node}
	}
	var res []int
	for _, p := range r.Parts {
		res = append(res, leaves(p)...)
	}
	return res
}

// isLarge counts no further than MaxReasons, since a reason may contain itself.
func isLarge(r api.Reason) bool {
	count := 0
	var isOver func(r api.Reason, depth int) bool
	isOver = func(r api.Reason, depth int) bool {
		count++
		if count > api.MaxReasons || depth > api.MaxNodes {
			return true
		}
		return slices.ContainsFunc(r.Parts, func(p api.Reason) bool { return isOver(p, depth+1) })
	}
	return isOver(r, 1)
}
