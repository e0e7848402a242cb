package automata

import (
	"slices"

	"stutter/api"
)

// The kinds of formulas in negation normal form.
const (
	formTrue = iota
	formFalse
	formAtom
	formNoAtom
	formAnd
	formOr
	formAlways
	formSometime
	formUntil   // the second at last, the first before it
	formRelease // the second until, and when, the first holds, or for ever
)

// part is a formula in negation normal form; operands are parts before it.
type part struct {
	kind, atom int
	a, b       int
}

// tableau makes the automaton of a formula: its states are sets of parts that must hold from now on.
type tableau struct {
	parts  []part
	index  map[part]int
	states map[string]int
	sets   [][]int
	edges  []api.AutomatonEdge
	large  bool // so many ways were joined that there is no end to it
}

// maxJoined is how many ways are joined at once.
const maxJoined = 20000

// add returns the number of a part.
func (t *tableau) add(p part) int {
	if i, is := t.index[p]; is {
		return i
	}
	t.index[p] = len(t.parts)
	t.parts = append(t.parts, p)
	return len(t.parts) - 1
}

// normal adds a node of a formula, or its negation, in negation normal form.
func (t *tableau) normal(f api.Formula, node int, positive bool) int {
	n := f[node]
	operand := func(k int, as bool) int { return t.normal(f, n.Args[k], as) }
	two := func(yes, no, a, b int) int {
		if positive {
			return t.add(part{kind: yes, a: a, b: b})
		}
		return t.add(part{kind: no, a: a, b: b})
	}
	switch n.Kind {
	case api.FormulaTrue:
		return two(formTrue, formFalse, 0, 0)
	case api.FormulaAtom:
		if positive {
			return t.add(part{kind: formAtom, atom: n.N})
		}
		return t.add(part{kind: formNoAtom, atom: n.N})
	case api.FormulaNot:
		return operand(0, !positive)
	case api.FormulaAnd:
		return two(formAnd, formOr, operand(0, positive), operand(1, positive))
	case api.FormulaOr:
		return two(formOr, formAnd, operand(0, positive), operand(1, positive))
	case api.FormulaImplies:
		return two(formOr, formAnd, operand(0, !positive), operand(1, positive))
	case api.FormulaAlways:
		return two(formAlways, formSometime, operand(0, positive), 0)
	case api.FormulaSometime:
		return two(formSometime, formAlways, operand(0, positive), 0)
	case api.FormulaUntil:
		return two(formUntil, formRelease, operand(0, positive), operand(1, positive))
	}
	return t.leads(operand(0, !positive), operand(1, positive), positive)
}

// leads adds [](!a \/ <>b), or its negation <>(a /\ []!b).
func (t *tableau) leads(a, b int, positive bool) int {
	if positive {
		later := t.add(part{kind: formSometime, a: b})
		return t.add(part{kind: formAlways, a: t.add(part{kind: formOr, a: a, b: later})})
	}
	never := t.add(part{kind: formAlways, a: b})
	return t.add(part{kind: formSometime, a: t.add(part{kind: formAnd, a: a, b: never})})
}

// now is what must hold of a letter, and what must hold from the next one on.
type now struct {
	need, never int
	next        []int
}

// covers says whether what another one asks for is asked for by this one, too, and no more.
func (x now) covers(y now) bool {
	return x.need&^y.need == 0 && x.never&^y.never == 0 && !slices.ContainsFunc(x.next, func(p int) bool { return !slices.Contains(y.next, p) })
}

// minimal leaves out what another one covers.
func minimal(l []now) []now {
	var out []now
	for _, x := range l {
		if x.need&x.never != 0 || slices.ContainsFunc(out, func(y now) bool { return y.covers(x) }) {
			continue
		}
		out = slices.DeleteFunc(out, x.covers)
		out = append(out, x)
	}
	return out
}

// both joins each of some with each of others.
func (t *tableau) both(a, b []now) []now {
	var out []now
	if len(a)*len(b) > maxJoined {
		t.large = true
		return nil
	}
	for _, x := range a {
		for _, y := range b {
			next := slices.Concat(x.next, y.next)
			slices.Sort(next)
			out = append(out, now{x.need | y.need, x.never | y.never, slices.Compact(next)})
		}
	}
	return minimal(out)
}

// either is some and others.
func either(a, b []now) []now { return minimal(slices.Concat(a, b)) }

// expand is the ways in which a part can hold from now on.
func (t *tableau) expand(i int) []now {
	p := t.parts[i]
	later := []now{{next: []int{i}}}
	switch p.kind {
	case formTrue:
		return []now{{}}
	case formFalse:
		return nil
	case formAtom:
		return []now{{need: 1 << p.atom}}
	case formNoAtom:
		return []now{{never: 1 << p.atom}}
	case formAnd:
		return t.both(t.expand(p.a), t.expand(p.b))
	case formOr:
		return either(t.expand(p.a), t.expand(p.b))
	case formAlways:
		return t.both(t.expand(p.a), later)
	case formSometime:
		return either(t.expand(p.a), later)
	case formUntil:
		return either(t.expand(p.b), t.both(t.expand(p.a), later))
	}
	return t.both(t.expand(p.b), either(t.expand(p.a), later))
}

// keyOf is the text of a set of parts.
func keyOf(set []int) string {
	var out []byte
	for _, p := range set {
		out = append(out, byte(p))
	}
	return string(out)
}

// state returns the number of the state of a set.
func (t *tableau) state(set []int) int {
	key := keyOf(set)
	if s, is := t.states[key]; is {
		return s
	}
	t.states[key] = len(t.sets)
	t.sets = append(t.sets, set)
	return len(t.sets) - 1
}

// tooLarge says whether the automaton has too many parts.
func (t *tableau) tooLarge() bool {
	return t.large || len(t.sets) > api.MaxAutomatonStates || len(t.edges) > api.MaxAutomatonEdges
}

// run makes all states and edges.
func (t *tableau) run(root int) {
	t.state([]int{root})
	for s := 0; s < len(t.sets) && !t.tooLarge(); s++ {
		ways := []now{{}}
		for _, p := range t.sets[s] {
			ways = t.both(ways, t.expand(p))
		}
		for _, w := range ways {
			t.edges = append(t.edges, api.AutomatonEdge{From: s, To: t.state(w.next), Need: w.need, Never: w.never})
		}
	}
}

// accept is for each part that must be fulfilled at last the states in which it is not owed.
func (t *tableau) accept() [][]int {
	var out [][]int
	for i, p := range t.parts {
		if p.kind != formSometime && p.kind != formUntil {
			continue
		}
		var free []int
		for s, set := range t.sets {
			if !slices.Contains(set, i) {
				free = append(free, s)
			}
		}
		out = append(out, free)
	}
	return out
}

// automatonOf is the automaton of a valid formula, if it is not too large.
func automatonOf(f api.Formula) (api.Automaton, api.Errno) {
	t := &tableau{index: map[part]int{}, states: map[string]int{}}
	t.run(t.normal(f, len(f)-1, true))
	accept := t.accept()
	if t.tooLarge() || len(accept) > api.MaxAcceptSets {
		return api.Automaton{}, api.ErrLarge
	}
	return api.Automaton{States: len(t.sets), Init: []int{0}, Edges: t.edges, Accept: accept}, api.OK
}
