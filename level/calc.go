package level

import (
	"slices"

	"stutter/api"
	"stutter/exprs"
	"stutter/tree"
	"stutter/words"
)

// meaning is what a name stands for, the innermost one first: a level, or a definition of a LET; one that is used within its own body has an assumed level.
type meaning struct {
	name    string
	level   int
	assumed bool
	let     *closure
	next    *meaning
}

// closure is the definition of a LET where it stands.
type closure struct {
	node  *exprs.Tree
	names *meaning
	frame *frame
}

// call is a body that is evaluated: a definition (below 0), or a LET by its node, with the levels of its operands.
type call struct{ body, levels int }

// frame is an evaluation of a body. Its calls are kept: they hold while its stamp is the same, and otherwise begin where they have come to, as assumed levels never fall.
type frame struct {
	stamp, seen    int
	level, assumed int
	calls          map[call]*frame
	record         bool
}

// group is definitions that reach one another, while one of them is evaluated; assumed is their levels.
type group struct {
	members map[int]bool
	assumed map[int]int
	frame   *frame
}

// calc finds levels in a scope.
type calc struct {
	scope   api.LevelScope
	bodies  []*exprs.Tree
	reach   [][]bool
	root    *frame
	active  *group
	stamps  int
	levels  []int
	applied map[string]int // definitions by their names
	nested
}

func newCalc(s api.LevelScope) *calc {
	c := &calc{scope: s, applied: map[string]int{}, nested: nested{inside: map[int]int{}, known: map[string][]known{}}}
	c.root = c.newFrame()
	for i, d := range s.Defs {
		c.bodies = append(c.bodies, exprs.Grow(d.Body))
		c.applied[d.Name] = i
	}
	for i := range s.Defs {
		c.reach = append(c.reach, make([]bool, len(s.Defs)))
		for _, name := range freeIn(s.Defs[i]) {
			if j, is := c.applied[name]; is {
				c.reach[i][j] = true
				c.uses = append(c.uses, [2]int{i, j})
			}
		}
	}
	for via := range c.reach {
		for from := range c.reach {
			for to := range c.reach {
				c.reach[from][to] = c.reach[from][to] || c.reach[from][via] && c.reach[via][to]
			}
		}
	}
	return c
}

// freeIn is the names that are free in a definition.
func freeIn(d api.Def) []string {
	free, _ := tree.FreeIn(d.Body)
	return slices.DeleteFunc(free, func(name string) bool { return slices.Contains(d.Params, name) })
}

func (c *calc) newFrame() *frame {
	c.stamps++
	return &frame{stamp: c.stamps, seen: api.None, calls: map[call]*frame{}}
}

// called returns the frame of a call, and whether its level holds.
func (c *calc) called(around *frame, key call) (*frame, bool) {
	f := around.calls[key]
	if f == nil {
		f = c.newFrame()
		around.calls[key] = f
	}
	holds := f.seen == around.stamp
	f.seen = around.stamp
	return f, holds
}

// keyOf packs levels into a number.
func keyOf(levels []int) int {
	out := 1
	for _, l := range levels {
		out = out*api.LevelKinds + l
	}
	return out
}

// highest is the highest of levels; None if one is none.
func highest(levels ...int) int {
	out := 0
	for _, l := range levels {
		if l == api.None {
			return api.None
		}
		out = max(out, l)
	}
	return out
}

// useDef is the level of a definition with operands.
func (c *calc) useDef(def int, levels []int) int {
	if c.isCrowded(def) {
		return c.useTogether(def, levels)
	}
	return c.useNested(def, levels)
}

// isRecursive says whether a definition reaches itself.
func (c *calc) isRecursive(def int) bool { return c.scope.Defs[def].Recursive && c.reach[def][def] }

// useTogether is the level of a definition of a crowd with operands: all that reach one another rise at once, those but the first one with parameters 0, since there is no end to the ways through them.
func (c *calc) useTogether(def int, levels []int) int {
	recursive := c.isRecursive(def)
	if c.active != nil && c.active.members[def] {
		if recursive {
			return highest(append(slices.Clone(levels), c.active.assumed[def])...)
		}
		return c.evaluated(c.active.frame, def, levels)
	}
	before := c.active
	defer func() { c.active = before }()
	c.active = nil
	if !recursive {
		return c.evaluated(c.root, def, levels)
	}
	f, holds := c.called(c.root, call{-1 - def, keyOf(levels)})
	if !holds {
		f.level = c.settle(def, levels)
	}
	return f.level
}

// evaluated is the level of a definition's body.
func (c *calc) evaluated(around *frame, def int, levels []int) int {
	f, holds := c.called(around, call{-1 - def, keyOf(levels)})
	if !holds {
		c.stamps++
		f.stamp = c.stamps
		f.level = c.level(c.bodies[def], c.params(def, levels), f)
	}
	return f.level
}

// params is what the parameters of a definition stand for.
func (c *calc) params(def int, levels []int) *meaning {
	var m *meaning
	for i, name := range c.scope.Defs[def].Params {
		m = &meaning{name: name, level: levels[i], next: m}
	}
	return m
}

// settle is the level of a definition that reaches itself: assumed levels rise until nothing changes.
func (c *calc) settle(def int, levels []int) int {
	g := &group{members: map[int]bool{}, assumed: map[int]int{}, frame: c.newFrame()}
	for i := range c.scope.Defs {
		g.members[i] = c.reach[def][i] && c.reach[i][def]
	}
	c.active = g
	for {
		c.stamps++
		g.frame.stamp = c.stamps
		next := map[int]int{}
		for i, d := range c.scope.Defs {
			switch {
			case i == def:
				next[i] = c.evaluated(g.frame, i, levels)
			case g.members[i] && d.Recursive:
				next[i] = c.evaluated(g.frame, i, make([]int, len(d.Params)))
			}
		}
		changed := false
		for i, l := range next {
			old := g.assumed[i]
			if old != api.None && (l == api.None || l > old) {
				g.assumed[i], changed = l, true
			}
		}
		if !changed || g.assumed[def] == api.None {
			return g.assumed[def]
		}
	}
}

// useLet is the level of a definition of a LET with operands.
func (c *calc) useLet(l *closure, levels []int) int {
	f, holds := c.called(l.frame, call{l.node.Index, keyOf(levels)})
	if holds {
		return f.level
	}
	for {
		c.stamps++
		f.stamp = c.stamps
		f.level = c.level(l.node.Kids[0], l.within(levels, f.assumed), f)
		if l.node.N == 0 || f.level <= f.assumed {
			return f.level
		}
		f.assumed = f.level
	}
}

// within is what names stand for in the definition of a LET.
func (l *closure) within(levels []int, assumed int) *meaning {
	m := l.names
	if l.node.N == 1 {
		m = &meaning{name: l.node.Names[0], level: assumed, assumed: true, next: m}
	}
	for i, name := range l.node.Names[1:] {
		m = &meaning{name: name, level: levels[i], next: m}
	}
	return m
}

// level is the level of a node, or None; in a frame that records all levels are kept.
func (c *calc) level(t *exprs.Tree, m *meaning, f *frame) int {
	var out int
	if t.Kind == api.ExprLet {
		out = c.levelOfLet(t, m, f)
	} else {
		levels := make([]int, len(t.Kids))
		for i, k := range t.Kids {
			inner := m
			for _, name := range t.Binds(i) {
				inner = &meaning{name: name, next: inner}
			}
			levels[i] = c.level(k, inner, f)
		}
		out = api.None
		if !slices.Contains(levels, api.None) {
			out = c.ruled(t, levels, m)
		}
	}
	if f.record {
		c.levels[t.Index] = out
	}
	return out
}

// levelOfLet is the level of a LET; its definition is looked at by itself only where levels are kept.
func (c *calc) levelOfLet(t *exprs.Tree, m *meaning, f *frame) int {
	l := &closure{node: t, names: m, frame: f}
	if f.record {
		zero := make([]int, len(t.Names)-1)
		c.useLet(l, zero)
		own, _ := c.called(f, call{t.Index, keyOf(zero)})
		c.level(t.Kids[0], l.within(zero, own.assumed), f)
	}
	return c.level(t.Kids[1], &meaning{name: t.Names[0], let: l, next: m}, f)
}

// ruled is the level of a node whose operands have levels.
func (c *calc) ruled(t *exprs.Tree, levels []int, m *meaning) int {
	last := api.None
	if len(levels) > 0 {
		last = levels[len(levels)-1]
	}
	switch t.Kind {
	case api.ExprName:
		return c.named(t, nil, m)
	case api.ExprApply:
		if _, err := tree.OperatorOf(t.Text); err != api.OK {
			return c.named(t, levels, m)
		}
		return applied(t, levels)
	case api.ExprBox, api.ExprAngle:
		return if2(levels[0] <= api.LevelAction && levels[1] <= api.LevelState, api.LevelAction)
	case api.ExprWeak, api.ExprStrong:
		return if2(levels[0] <= api.LevelAction && levels[1] <= api.LevelState, api.LevelTemporal)
	case api.ExprAll, api.ExprSome:
		others := highest(levels[:len(levels)-1]...)
		return if2(others != api.LevelTemporal && (last != api.LevelTemporal || others == 0), max(others, last))
	case api.ExprAny, api.ExprExists, api.ExprLambda:
		return last
	}
	return plain(levels)
}

// if2 is a level, or None if a rule is broken.
func if2(kept bool, level int) int {
	if kept {
		return level
	}
	return api.None
}

// plain is the highest level of operands, none of which is temporal.
func plain(levels []int) int {
	out := highest(levels...)
	return if2(out != api.LevelTemporal, out)
}

// applied is the level of an operator of chapter 2.
func applied(t *exprs.Tree, levels []int) int {
	first := levels[0]
	isFormula := func(l int) bool { return l != api.LevelAction }
	switch t.Text {
	case "'", "UNCHANGED":
		return if2(first <= api.LevelState, first*2)
	case "ENABLED":
		return if2(first <= api.LevelAction, api.LevelState)
	case `\cdot`:
		return if2(max(first, levels[1]) <= api.LevelAction, api.LevelAction)
	case "[]":
		return if2(isFormula(first) || t.Kids[0].Kind == api.ExprBox, api.LevelTemporal)
	case "<>":
		return if2(isFormula(first) || t.Kids[0].Kind == api.ExprAngle, api.LevelTemporal)
	case "~>":
		return if2(isFormula(first) && isFormula(levels[1]), api.LevelTemporal)
	case "~", `/\`, `\/`, "=>", "<=>":
		return highest(levels...)
	}
	return plain(levels)
}

// named is the level of a name with operands, or of an operator that is an argument.
func (c *calc) named(t *exprs.Tree, levels []int, m *meaning) int {
	for ; m != nil; m = m.next {
		if m.name != t.Text {
			continue
		}
		if m.let != nil {
			return c.useLet(m.let, padded(levels, len(m.let.node.Names)-1))
		}
		return highest(append(slices.Clone(levels), m.level)...)
	}
	if words.IsBuiltIn(t.Text) || slices.Contains(c.scope.Constants, t.Text) {
		return plain(levels)
	}
	if slices.Contains(c.scope.Vars, t.Text) {
		return api.LevelState
	}
	def := c.applied[t.Text]
	return c.useDef(def, padded(levels, len(c.scope.Defs[def].Params)))
}

// padded is the levels of operands, or zeros where an operator is an argument itself.
func padded(levels []int, n int) []int {
	if len(levels) < n {
		return make([]int, n)
	}
	return levels
}
