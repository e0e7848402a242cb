package prover

import (
	"slices"

	"stutter/alike"
	"stutter/api"
	"stutter/exprs"
)

// mostLines is how many lines are written before the search is given up; far more than a derivation may have, since many of them are not needed.
const mostLines = 6000

// part is a part of a formula: a connective over parts, TRUE, FALSE, or an atom; what it is worth (as an atom), and about how many lines it takes to show it, or to make FALSE of it, for the truth values that were measured last.
type part struct {
	operator       string
	atom, id       int
	kids           []*part
	worth          int
	toShow, toFall int
}

// truths has for each atom 1 (true), -1 (false), or 0 (not known).
type truths [api.MaxAtoms]int

// branch is what is known of the atoms, and the lines that say so.
type branch struct {
	truths
	lines [api.MaxAtoms]int
}

// decider looks through the truth values of a sequent.
type decider struct {
	*builder
	atoms []int
	hyps  []*part
	goal  *part
	// measured is the truth values for which the parts are measured.
	measured        truths
	falsity, denial int
}

func newDecider(q api.Sequent) *decider {
	d := &decider{builder: newBuilder()}
	d.falsity = d.word("FALSE")
	for _, h := range q.Hyps {
		d.hyps = append(d.hyps, d.grow(exprs.Grow(h)))
	}
	d.goal = d.grow(exprs.Grow(q.Goal))
	d.denial = d.apply("~", d.goal.id)
	if len(d.atoms) <= api.MaxAtoms {
		d.all(func(p *part) { p.measure(&d.measured) })
	}
	return d
}

func (d *decider) grow(t *exprs.Tree) *part {
	p := &part{id: d.of(t.Flat())}
	switch {
	case t.Kind == api.ExprName && (t.Text == "TRUE" || t.Text == "FALSE"):
		p.operator = t.Text
		return p
	case t.Kind == api.ExprApply && isConnective(t.Text):
		p.operator = t.Text
		for _, k := range t.Kids {
			p.kids = append(p.kids, d.grow(k))
		}
		return p
	}
	p.atom = slices.Index(d.atoms, p.id)
	if p.atom < 0 {
		p.atom = len(d.atoms)
		d.atoms = append(d.atoms, p.id)
	}
	return p
}

func isConnective(s string) bool {
	return slices.Contains([]string{"~", "/\\", "\\/", "=>", "<=>"}, s)
}

// all goes through the hypotheses and the goal.
func (d *decider) all(do func(*part)) {
	for _, h := range d.hyps {
		do(h)
	}
	do(d.goal)
}

// measure measures all parts, unless they are measured for these truth values already.
func (d *decider) measure(t truths) {
	if t != d.measured {
		d.measured = t
		d.all(func(p *part) { p.measure(&t) })
	}
}

// against returns the first truth values for which the sequent is not true.
func (d *decider) against() ([]int, bool) {
	n := len(d.atoms)
	for row := range 1 << n {
		var t truths
		var out []int
		for i := range n {
			bit := row >> (n - 1 - i) & 1
			t[i] = 2*bit - 1
			out = append(out, bit)
		}
		d.measure(t)
		if d.goal.worth < 0 && !slices.ContainsFunc(d.hyps, func(h *part) bool { return h.worth < 0 }) {
			return out, true
		}
	}
	return nil, false
}

// prove returns a derivation of a sequent that is true for all truth values, unless it becomes too long.
func (d *decider) prove() ([]api.KernelStep, bool) {
	var known branch
	for _, h := range d.hyps {
		switch {
		case h.operator == "":
			known.truths[h.atom], known.lines[h.atom] = 1, d.hyp(h.id)
		case h.operator == "~" && h.kids[0].operator == "":
			known.truths[h.kids[0].atom], known.lines[h.kids[0].atom] = -1, d.hyp(h.id)
		}
	}
	last := 0
	d.measure(known.truths)
	if d.goal.worth > 0 {
		last = d.shown(d.goal, &known)
	} else {
		refuted, found := d.refuted(known)
		if !found {
			return nil, false
		}
		last = d.concluded(refuted)
	}
	l := d.emitted(last)
	return l, len(l) > 0
}

// concluded makes the goal of FALSE, which may rest on the negation of the goal.
func (d *decider) concluded(at int) int {
	switch {
	case d.goal.id == d.falsity:
		return at
	case d.needs(at, d.denial):
		return d.put(line{rule: api.RuleClassical, goal: d.goal.id, from: []int{at}}, d.denial)
	}
	return d.add(api.RuleFalse, d.goal.id, at)
}

// refuted returns a line that says FALSE, from the hypotheses, what is known, and the negation of the goal. Whatever leads to FALSE makes the contrary known, so that no cases have to be joined.
func (d *decider) refuted(known branch) (int, bool) {
	for len(d.lines) < mostLines {
		if at, found := d.closed(&known); found {
			return at, true
		}
		atom, sign := d.next(known)
		id := d.literal(atom, sign)
		assumed := known
		assumed.truths[atom], assumed.lines[atom] = sign, d.hyp(id)
		at, found := d.refuted(assumed)
		if !found || !d.needs(at, id) {
			return at, found
		}
		rule := api.RuleNot
		if sign < 0 {
			rule = api.RuleClassical
		}
		contrary := d.put(line{rule: rule, goal: d.literal(atom, -sign), from: []int{at}}, id)
		known.truths[atom], known.lines[atom] = -sign, contrary
	}
	return 0, false
}

// literal returns an atom, or its negation.
func (d *decider) literal(atom, sign int) int {
	if sign > 0 {
		return d.atoms[atom]
	}
	return d.apply("~", d.atoms[atom])
}

// cheapest returns the least number of lines with which truth values are a contradiction (with the index of the hypothesis, or None for the goal), if they are one.
func (d *decider) cheapest(t truths) (cost, at int, found bool) {
	d.measure(t)
	if d.goal.worth > 0 {
		cost, at, found = d.goal.toShow+1, api.None, true
	}
	for i, h := range d.hyps {
		if h.worth < 0 && (!found || h.toFall < cost) {
			cost, at, found = h.toFall, i, true
		}
	}
	return cost, at, found
}

// closed returns a line that says FALSE, if what is known is a contradiction.
func (d *decider) closed(known *branch) (int, bool) {
	_, at, found := d.cheapest(known.truths)
	switch {
	case !found:
		return 0, false
	case at == api.None:
		denial := d.hyp(d.denial)
		return d.add(api.RuleContradict, d.falsity, denial, d.shown(d.goal, known)), true
	}
	return d.absurd(d.hyps[at], d.hyp(d.hyps[at].id), known), true
}

// next returns the atom, and its value, that is assumed next: one that is a contradiction at once, if there is one, otherwise the one that leaves the fewest parts unknown.
func (d *decider) next(known branch) (int, int) {
	atom, sign, best, open := 0, 0, api.None, 0
	tried := known.truths
	for i := range d.atoms {
		if tried[i] != 0 {
			continue
		}
		unknown := 0
		for _, v := range []int{1, -1} {
			tried[i] = v
			if cost, _, found := d.cheapest(tried); found && (best == api.None || cost < best) {
				atom, sign, best = i, v, cost
			}
			d.all(func(p *part) { unknown += p.unknown() })
		}
		tried[i] = 0
		if sign == 0 || best == api.None && unknown < open {
			atom, sign, open = i, 1, unknown
		}
	}
	return atom, sign
}

// unknown returns how many parts have no value.
func (p *part) unknown() int {
	if p.worth != 0 {
		return 0
	}
	n := 1
	for _, k := range p.kids {
		n += k.unknown()
	}
	return n
}

// isPlain says whether an expression is a name that is not qualified.
func isPlain(e api.Expr) bool {
	return len(e) == 1 && e[0].Kind == api.ExprName && !slices.Contains([]string{"BOOLEAN", "STRING"}, e[0].Text) && !slices.Contains([]byte(e[0].Text), '!') && !alike.IsWord(e, "TRUE") && !alike.IsWord(e, "FALSE")
}
