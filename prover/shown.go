package prover

import "stutter/api"

// shown returns a line that says a part that is true; the parts are measured for what is known.
func (d *decider) shown(p *part, known *branch) int {
	switch p.operator {
	case "":
		return known.lines[p.atom]
	case "TRUE":
		return d.add(api.RuleTrue, p.id)
	case "~":
		return d.negated(p, known)
	}
	a, b := p.kids[0], p.kids[1]
	switch p.operator {
	case "/\\":
		left := d.shown(a, known)
		return d.add(api.RuleAnd, p.id, left, d.shown(b, known))
	case "\\/":
		if p.takesLeft() {
			return d.add(api.RuleOrLeft, p.id, d.shown(a, known))
		}
		return d.add(api.RuleOrRight, p.id, d.shown(b, known))
	case "=>":
		return d.implied(a, b, p.takesLeft(), known)
	}
	fails := a.worth < 0
	there := d.implied(a, b, fails, known)
	return d.add(api.RuleIff, p.id, there, d.implied(b, a, fails, known))
}

// takesLeft says whether a conjunction that is false, or a disjunction or an implication that is true, is better taken by its left side.
func (p *part) takesLeft() bool {
	a, b := p.kids[0], p.kids[1]
	switch p.operator {
	case "/\\":
		return a.worth < 0 && (b.worth >= 0 || a.toFall <= b.toFall)
	case "=>":
		return a.worth < 0 && (b.worth <= 0 || a.toFall+2 <= b.toShow)
	}
	return a.worth > 0 && (b.worth <= 0 || a.toShow <= b.toShow)
}

// negated returns a line that says a negation, its operand being false.
func (d *decider) negated(p *part, known *branch) int {
	kid := p.kids[0]
	if kid.operator == "" {
		return known.lines[kid.atom]
	}
	return d.put(line{rule: api.RuleNot, goal: p.id, from: []int{d.absurd(kid, d.hyp(kid.id), known)}}, kid.id)
}

// implied returns a line that says a => b, either since a is false, or since b is true.
func (d *decider) implied(a, b *part, fails bool, known *branch) int {
	at := 0
	if !fails {
		at = d.shown(b, known)
	} else {
		at = d.absurd(a, d.hyp(a.id), known)
		if b.id != d.falsity {
			at = d.add(api.RuleFalse, b.id, at)
		}
	}
	return d.put(line{rule: api.RuleImplies, goal: d.apply("=>", a.id, b.id), from: []int{at}}, a.id)
}

// absurd returns a line that says FALSE, made of one that says a part that is false.
func (d *decider) absurd(p *part, at int, known *branch) int {
	switch p.operator {
	case "":
		return d.add(api.RuleContradict, d.falsity, known.lines[p.atom], at)
	case "FALSE":
		return at
	case "~":
		return d.add(api.RuleContradict, d.falsity, at, d.shown(p.kids[0], known))
	}
	a, b := p.kids[0], p.kids[1]
	switch p.operator {
	case "/\\":
		if p.takesLeft() {
			return d.absurd(a, d.add(api.RuleAndLeft, a.id, at), known)
		}
		return d.absurd(b, d.add(api.RuleAndRight, b.id, at), known)
	case "\\/":
		left := d.absurd(a, d.hyp(a.id), known)
		right := d.absurd(b, d.hyp(b.id), known)
		return d.put(line{rule: api.RuleCases, goal: d.falsity, from: []int{at, left, right}}, api.None, a.id, b.id)
	case "<=>":
		rule := api.RuleIffLeft
		if a.worth < 0 {
			rule, a, b = api.RuleIffRight, b, a
		}
		at = d.add(rule, d.apply("=>", a.id, b.id), at)
	}
	return d.absurd(b, d.add(api.RuleDetach, b.id, at, d.shown(a, known)), known)
}

// measure sets what a part is worth, and what it takes, for truth values.
func (p *part) measure(t *truths) {
	for _, k := range p.kids {
		k.measure(t)
	}
	p.worth = p.value(t)
	if p.worth > 0 {
		p.toShow = p.showing()
	}
	if p.worth < 0 {
		p.toFall = p.falling()
	}
}

// value returns 1, -1, or 0 if what is known of the atoms does not tell.
func (p *part) value(t *truths) int {
	switch p.operator {
	case "":
		return t[p.atom]
	case "TRUE":
		return 1
	case "FALSE":
		return -1
	case "~":
		return -p.kids[0].worth
	}
	a, b := p.kids[0].worth, p.kids[1].worth
	switch p.operator {
	case "/\\":
		return min(a, b)
	case "\\/":
		return max(a, b)
	case "=>":
		return max(-a, b)
	}
	return a * b
}

// showing returns about how many lines shown needs.
func (p *part) showing() int {
	switch p.operator {
	case "":
		return 0
	case "TRUE":
		return 1
	case "~":
		if p.kids[0].operator == "" {
			return 0
		}
		return 2 + p.kids[0].toFall
	}
	a, b := p.kids[0], p.kids[1]
	switch {
	case p.operator == "/\\":
		return 1 + a.toShow + b.toShow
	case p.operator == "=>" && p.takesLeft():
		return 3 + a.toFall
	case p.operator == "\\/" && p.takesLeft():
		return 1 + a.toShow
	case p.operator != "<=>":
		return 1 + b.toShow
	case a.worth < 0:
		return 7 + a.toFall + b.toFall
	}
	return 3 + a.toShow + b.toShow
}

// falling returns about how many lines absurd needs.
func (p *part) falling() int {
	switch p.operator {
	case "":
		return 1
	case "FALSE":
		return 0
	case "~":
		return 1 + p.kids[0].toShow
	}
	a, b := p.kids[0], p.kids[1]
	switch p.operator {
	case "/\\":
		if p.takesLeft() {
			return 1 + a.toFall
		}
		return 1 + b.toFall
	case "\\/":
		return 3 + a.toFall + b.toFall
	case "<=>":
		if a.worth < 0 {
			a, b = b, a
		}
		return 2 + a.toShow + b.toFall
	}
	return 1 + a.toShow + b.toFall
}
