package prover

import (
	"slices"
	"strconv"

	"stutter/alike"
	"stutter/api"
	"stutter/exprs"
	"stutter/linear"
	"stutter/tree"
	"stutter/usage"
)

// bond is why two terms are equal: an equation (its number among the equations), or, with None, the equality of their operands.
type bond struct{ a, b, equation int }

// closure is terms, and bonds that make them equal; no bond is added between terms that are equal already, so that there is one way of bonds between two of them.
type closure struct {
	*builder
	class map[int]int
	bonds []bond
	fresh string
}

// checkEquations returns the error of equations, and of two terms.
func checkEquations(l []api.Expr, a, b api.Expr) api.Errno {
	if len(l) > api.MaxEquations {
		return api.ErrLarge
	}
	size := len(a) + len(b)
	for _, e := range l {
		if _, err := tree.CheckExpr(e); err != api.OK {
			return err
		}
		if !linear.IsEquation(e) {
			return api.ErrForm
		}
		size += len(e)
	}
	for _, e := range []api.Expr{a, b} {
		if _, err := tree.CheckExpr(e); err != api.OK {
			return err
		}
	}
	if size > api.MaxNodes {
		return api.ErrLarge
	}
	return api.OK
}

// EqualBy says whether two terms are equal by equations.
func EqualBy(l []api.Expr, a, b api.Expr) (bool, api.Errno) {
	if err := checkEquations(l, a, b); err != api.OK {
		return false, err
	}
	c := closed(l, a, b)
	return c.class[c.of(a)] == c.class[c.of(b)], api.OK
}

// ExplainedBy returns a derivation of an equation of two terms that are equal by equations.
func ExplainedBy(l []api.Expr, a, b api.Expr) ([]api.KernelStep, api.Errno) {
	if err := checkEquations(l, a, b); err != api.OK {
		return nil, err
	}
	c := closed(l, a, b)
	if c.class[c.of(a)] != c.class[c.of(b)] {
		return nil, api.ErrNone
	}
	steps := c.emitted(c.equal(c.of(a), c.of(b)))
	if len(steps) == 0 {
		return nil, api.ErrFuel
	}
	return steps, api.OK
}

// closed returns all terms with the bonds between them.
func closed(l []api.Expr, a, b api.Expr) *closure {
	c := &closure{builder: newBuilder(), class: map[int]int{}, fresh: freshIn(append([]api.Expr{a, b}, l...))}
	c.note(a)
	c.note(b)
	for _, e := range l {
		sides, _ := alike.Parts(e, "=")
		c.note(sides[0])
		c.note(sides[1])
	}
	for _, e := range l {
		sides, _ := alike.Parts(e, "=")
		c.join(bond{c.of(sides[0]), c.of(sides[1]), c.of(e)})
	}
	c.congruent()
	return c
}

// freshIn returns a name that stands nowhere.
func freshIn(l []api.Expr) string {
	taken := map[string]bool{}
	for _, e := range l {
		for _, n := range e {
			taken[n.Text] = true
			for _, s := range n.Names {
				taken[s] = true
			}
		}
	}
	for i := 1; ; i++ {
		if name := "x_" + strconv.Itoa(i); !taken[name] {
			return name
		}
	}
}

// note takes a term, and those that count in it.
func (c *closure) note(e api.Expr) {
	id := c.of(e)
	if _, is := c.class[id]; is {
		return
	}
	c.class[id] = id
	if usage.AppliesName(e[len(e)-1]) {
		for _, o := range alike.Operands(e) {
			c.note(o)
		}
	}
}

// join makes two terms equal that are not.
func (c *closure) join(by bond) bool {
	from, to := c.class[by.a], c.class[by.b]
	if from == to {
		return false
	}
	for id, class := range c.class {
		if class == from {
			c.class[id] = to
		}
	}
	c.bonds = append(c.bonds, by)
	return true
}

// congruent joins terms with equal operands, until there are none. A term leaves the list as soon as it is equal to one before it.
func (c *closure) congruent() {
	left := map[int][]int{}
	for id := range c.class {
		if e := c.exprs[id]; usage.AppliesName(e[len(e)-1]) {
			left[id] = c.operands(id)
		}
	}
	for again := true; again; {
		again = false
		ids := make([]int, 0, len(left))
		for id := range left {
			ids = append(ids, id)
		}
		slices.Sort(ids)
		for i, b := range ids {
			for _, a := range ids[:i] {
				if c.matches(a, b, left) {
					again = c.join(bond{a, b, api.None}) || again
					delete(left, b)
					break
				}
			}
		}
	}
}

// matches says whether two terms, both of which are left, have the same operator and equal operands.
func (c *closure) matches(a, b int, left map[int][]int) bool {
	l, m := left[a], left[b]
	e, f := c.exprs[a], c.exprs[b]
	if len(l) == 0 || len(l) != len(m) || e[len(e)-1].Text != f[len(f)-1].Text {
		return false
	}
	return slices.EqualFunc(l, m, func(x, y int) bool { return c.class[x] == c.class[y] })
}

func (c *closure) operands(id int) []int {
	var out []int
	for _, o := range alike.Operands(c.exprs[id]) {
		out = append(out, c.of(o))
	}
	return out
}

// way returns the terms from one to an equal one, with the bonds between.
func (c *closure) way(from, to int) []bond {
	before := map[int]bond{}
	list := []int{from}
	for i := 0; i < len(list); i++ {
		for _, by := range c.bonds {
			if by.b == list[i] {
				by.a, by.b = by.b, by.a
			}
			if _, is := before[by.b]; by.a == list[i] && by.b != from && !is {
				before[by.b] = by
				list = append(list, by.b)
			}
		}
	}
	var out []bond
	for at := to; at != from; at = before[at].a {
		out = append(out, before[at])
	}
	slices.Reverse(out)
	return out
}

func (c *closure) same(id int) int {
	return c.add(api.RuleSame, c.apply("=", id, id))
}

// replaced returns a line in which the right side of an equation stands for its left one: at the place of the fresh name in a term.
func (c *closure) replaced(equation, at int, term api.Expr, a, b int) int {
	return c.put(line{rule: api.RuleReplace, goal: c.apply("=", a, b), from: []int{equation, at}, name: c.fresh, term: term})
}

// equal returns a line that says that two terms are equal that are.
func (c *closure) equal(from, to int) int {
	if from == to {
		return c.same(from)
	}
	at := 0
	for i, by := range c.way(from, to) {
		next := c.bonded(by)
		if i == 0 {
			at = next
		} else {
			at = c.replaced(next, at, exprs.Apply("=", c.exprs[from], exprs.Name(c.fresh)), from, by.b)
		}
	}
	return at
}

// bonded returns a line that says what a bond says, in its direction.
func (c *closure) bonded(by bond) int {
	if by.equation == api.None {
		return c.applied(by.a, by.b)
	}
	given := c.hyp(by.equation)
	if c.lines[given].goal == c.apply("=", by.a, by.b) {
		return given
	}
	return c.replaced(given, c.same(by.b), exprs.Apply("=", exprs.Name(c.fresh), c.exprs[by.b]), by.a, by.b)
}

// applied returns a line that says that two terms with equal operands are equal.
func (c *closure) applied(a, b int) int {
	at := c.same(a)
	operands := c.operands(a)
	root := c.exprs[a][len(c.exprs[a])-1]
	for i, to := range c.operands(b) {
		from := operands[i]
		if from == to {
			continue
		}
		by := c.equal(from, to)
		operands[i] = to
		var l []api.Expr
		for _, id := range operands {
			l = append(l, c.exprs[id])
		}
		whole := exprs.Apply(root.Text, l...)
		l[i] = exprs.Name(c.fresh)
		at = c.replaced(by, at, exprs.Apply("=", c.exprs[a], exprs.Apply(root.Text, l...)), a, c.of(whole))
	}
	return at
}
