package prover

import (
	"strconv"

	"stutter/alike"
	"stutter/api"
	"stutter/exprs"
	"stutter/linear"
	"stutter/tree"
)

// equation is two terms, and the line that says that they are equal.
type equation struct {
	left, right *term
	at          int
}

// rewriter makes rules of equations: each of them makes a term a lesser one, and is such that no other one can be applied to it. By these rules equal terms become the same one.
type rewriter struct {
	*builder
	hole  *term // stands where a term is replaced
	rules []equation
}

// checkEquations returns the error of equations, and of two terms.
func checkEquations(l []api.Expr, a, b api.Expr) api.Errno {
	if len(l) > api.MaxEquations {
		return api.ErrLarge
	}
	size := len(a) + len(b)
	for _, e := range l {
		if _, err := tree.CheckExpr(e); err != api.OK {
			return err
		}
		if !linear.IsEquation(e) {
			return api.ErrForm
		}
		size += len(e)
	}
	for _, e := range []api.Expr{a, b} {
		if _, err := tree.CheckExpr(e); err != api.OK {
			return err
		}
	}
	if size > api.MaxNodes {
		return api.ErrLarge
	}
	return api.OK
}

// EqualBy says whether two terms are equal by equations.
func EqualBy(l []api.Expr, a, b api.Expr) (bool, api.Errno) {
	if err := checkEquations(l, a, b); err != api.OK {
		return false, err
	}
	w := rewriterOf(l, a, b)
	return w.least(a).right.key == w.least(b).right.key, api.OK
}

// ExplainedBy returns a derivation of an equation of two terms that are equal by equations.
func ExplainedBy(l []api.Expr, a, b api.Expr) ([]api.KernelStep, api.Errno) {
	if err := checkEquations(l, a, b); err != api.OK {
		return nil, err
	}
	w := rewriterOf(l, a, b)
	first, second := w.least(a), w.least(b)
	if first.right.key != second.right.key {
		return nil, api.ErrNone
	}
	steps := w.emitted(w.joined(first, second))
	if len(steps) == 0 {
		return nil, api.ErrFuel
	}
	return steps, api.OK
}

// rewriterOf makes the rules of equations.
func rewriterOf(l []api.Expr, a, b api.Expr) *rewriter {
	w := &rewriter{builder: newBuilder(), hole: termOf(exprs.Name(freshIn(append([]api.Expr{a, b}, l...))))}
	var todo []equation
	for _, e := range l {
		sides, _ := alike.Parts(e, "=")
		todo = append(todo, equation{termOf(sides[0]), termOf(sides[1]), w.hyp(w.of(e))})
	}
	for len(todo) > 0 {
		at := leastOf(todo)
		e := todo[at]
		todo = append(todo[:at:at], todo[at+1:]...)
		todo = append(todo, w.take(e)...)
	}
	return w
}

// leastOf is the place of the equation with the fewest nodes.
func leastOf(l []equation) int {
	best := 0
	for i, e := range l {
		if e.left.size+e.right.size < l[best].left.size+l[best].right.size {
			best = i
		}
	}
	return best
}

// take makes a rule of an equation, and returns the rules to which it can be applied: they are rules no more.
func (w *rewriter) take(e equation) []equation {
	e = w.applied(e, true)
	switch c := e.left.compare(e.right); {
	case c == 0:
		return nil
	case c < 0:
		e = w.turned(e)
	}
	var kept, again []equation
	for _, r := range w.rules {
		if r.left.has(e.left) || r.right.has(e.left) {
			again = append(again, r)
		} else {
			kept = append(kept, r)
		}
	}
	w.rules = append(kept, e)
	return again
}

// applied applies rules to the right side of an equation, perhaps to the left one, too, as long as one can be applied: always the one that leaves out most.
func (w *rewriter) applied(e equation, both bool) equation {
	for {
		best := api.None
		for i, r := range w.rules {
			if (e.right.has(r.left) || both && e.left.has(r.left)) && (best == api.None || r.saves() > w.rules[best].saves()) {
				best = i
			}
		}
		if best == api.None {
			return e
		}
		e = w.replaced(w.rules[best], e, both)
	}
}

// saves is how many nodes a rule leaves out.
func (e equation) saves() int { return e.left.size - e.right.size }

// least is a term and what it becomes by the rules.
func (w *rewriter) least(e api.Expr) equation {
	t := termOf(e)
	return w.applied(equation{t, t, w.same(t)}, false)
}

func (w *rewriter) same(t *term) int {
	return w.add(api.RuleSame, w.equal(t, t))
}

// equal is the expression that two terms are equal.
func (w *rewriter) equal(a, b *term) int { return w.of(exprs.Apply("=", a.expr(), b.expr())) }

// replaced puts the right side of an equation in the place of its left one, everywhere in another equation, or in its right side.
func (w *rewriter) replaced(by, e equation, both bool) equation {
	put := func(t *term) equation {
		out := equation{e.left, e.right.with(by.left, t), 0}
		if both {
			out.left = e.left.with(by.left, t)
		}
		return out
	}
	out, open := put(by.right), put(w.hole)
	return w.says(out.left, out.right, open, by.at, e.at)
}

// says returns the equation of two terms that follows by RuleReplace; open is where the hole is.
func (w *rewriter) says(left, right *term, open equation, from ...int) equation {
	term := exprs.Apply("=", open.left.expr(), open.right.expr())
	at := w.put(line{rule: api.RuleReplace, goal: w.equal(left, right), from: from, name: w.hole.leaf[0].Text, term: term})
	return equation{left, right, at}
}

// turned returns an equation with its sides exchanged.
func (w *rewriter) turned(e equation) equation {
	return w.says(e.right, e.left, equation{w.hole, e.left, 0}, e.at, w.same(e.left))
}

// joined returns the line that says that the left sides of two equations with the same right side are equal.
func (w *rewriter) joined(a, b equation) int {
	if b.left.key == b.right.key {
		return a.at
	}
	back := w.turned(b)
	if a.left.key == a.right.key {
		return back.at
	}
	return w.says(a.left, b.left, equation{a.left, w.hole, 0}, back.at, a.at).at
}

// freshIn returns a name that stands nowhere.
func freshIn(l []api.Expr) string {
	taken := map[string]bool{}
	for _, e := range l {
		for _, n := range e {
			taken[n.Text] = true
			for _, s := range n.Names {
				taken[s] = true
			}
		}
	}
	for i := 1; ; i++ {
		if name := "x_" + strconv.Itoa(i); !taken[name] {
			return name
		}
	}
}
