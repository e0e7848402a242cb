package tableau

import "stutter/api"

// The kinds of formulas in negation normal form.
const (
	formTrue = iota
	formFalse
	formAtom
	formNoAtom
	formAnd
	formOr
	formAlways
	formSometime
	formUntil   // the second at last, the first before it
	formRelease // the second until, and when, the first holds, or for ever
)

// part is a formula in negation normal form; operands are parts before it.
type part struct {
	kind, atom int
	a, b       int
}

// isTemporal says whether a part asks for something of later letters.
func (p part) isTemporal() bool { return p.kind >= formAlways }

// hasTwo says whether a part has two operands; otherwise, with isTemporal, it has one.
func (p part) hasTwo() bool {
	return p.kind == formAnd || p.kind == formOr || p.kind == formUntil || p.kind == formRelease
}

// normal is the parts of a formula in negation normal form, each once.
type normal struct {
	parts []part
	index map[part]int
}

// add returns the number of a part.
func (f *normal) add(p part) int {
	if i, is := f.shorter(p); is {
		return i
	}
	if i, is := f.index[p]; is {
		return i
	}
	f.index[p] = len(f.parts)
	f.parts = append(f.parts, p)
	return len(f.parts) - 1
}

// shorter is the operand of an always or a sometime that means the same as the whole.
func (f *normal) shorter(p part) (int, bool) {
	if p.kind != formAlways && p.kind != formSometime {
		return 0, false
	}
	a := f.parts[p.a]
	if a.kind == p.kind {
		return p.a, true
	}
	if a.kind != formAlways && a.kind != formSometime {
		return 0, false
	}
	return p.a, f.parts[a.a].kind == p.kind // []<>[]f is <>[]f
}

// of adds a node of a formula, or its negation, in negation normal form.
func (f *normal) of(l api.Formula, node int, positive bool) int {
	n := l[node]
	operand := func(k int, as bool) int { return f.of(l, n.Args[k], as) }
	two := func(yes, no, a, b int) int {
		if positive {
			return f.add(part{kind: yes, a: a, b: b})
		}
		return f.add(part{kind: no, a: a, b: b})
	}
	switch n.Kind {
	case api.FormulaTrue:
		return two(formTrue, formFalse, 0, 0)
	case api.FormulaAtom:
		if positive {
			return f.add(part{kind: formAtom, atom: n.N})
		}
		return f.add(part{kind: formNoAtom, atom: n.N})
	case api.FormulaNot:
		return operand(0, !positive)
	case api.FormulaAnd:
		return two(formAnd, formOr, operand(0, positive), operand(1, positive))
	case api.FormulaOr:
		return two(formOr, formAnd, operand(0, positive), operand(1, positive))
	case api.FormulaImplies:
		return two(formOr, formAnd, operand(0, !positive), operand(1, positive))
	case api.FormulaAlways:
		return two(formAlways, formSometime, operand(0, positive), 0)
	case api.FormulaSometime:
		return two(formSometime, formAlways, operand(0, positive), 0)
	case api.FormulaUntil:
		return two(formUntil, formRelease, operand(0, positive), operand(1, positive))
	}
	return f.leads(operand(0, !positive), operand(1, positive), positive)
}

// leads adds [](a \/ <>b), or its negation <>(a /\ []b), a and b being negated already.
func (f *normal) leads(a, b int, positive bool) int {
	if positive {
		later := f.add(part{kind: formSometime, a: b})
		return f.add(part{kind: formAlways, a: f.add(part{kind: formOr, a: a, b: later})})
	}
	never := f.add(part{kind: formAlways, a: b})
	return f.add(part{kind: formSometime, a: f.add(part{kind: formAnd, a: a, b: never})})
}
