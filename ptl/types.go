package ptl

import (
	"slices"

	"stutter/api"
	"stutter/digraph"
	"stutter/lasso"
)

// mostChoices is how many nodes may have a value of their own.
const mostChoices = 9

// tableau is the types of an expanded formula, and which follow which.
type tableau struct {
	formula api.Formula
	first   []int
	types   []api.PtlType
	next    digraph.Graph
}

// tableauOf returns the tableau of a formula, or its error for types.
func tableauOf(f api.Formula) (*tableau, api.Errno) {
	if _, err := lasso.CheckFormula(f); err != api.OK {
		return nil, err
	}
	t := &tableau{formula: grow(f).expanded().flat()}
	if len(t.formula) > api.MaxFormulaNodes {
		return nil, api.ErrLarge
	}
	t.findEqual()
	choices := t.choices()
	if len(choices) > mostChoices {
		return nil, api.ErrLarge
	}
	for row := range 1 << len(choices) {
		if values, right := t.valued(choices, row); right {
			t.types = append(t.types, values)
		}
	}
	slices.SortFunc(t.types, func(a, b api.PtlType) int { return slices.Compare(a, b) })
	t.connect()
	return t, api.OK
}

// findEqual notes for each node the first one that is the same part of the formula.
func (t *tableau) findEqual() {
	for i, n := range t.formula {
		same := func(j int) bool {
			m := t.formula[j]
			return n.Kind == m.Kind && n.N == m.N && slices.EqualFunc(n.Args, m.Args, func(a, b int) bool { return t.first[a] == t.first[b] })
		}
		j := 0
		for j < i && !same(j) {
			j++
		}
		t.first = append(t.first, j)
	}
}

// isTemporal says whether a kind of node depends on what follows.
func isTemporal(kind int) bool {
	return kind == api.FormulaAlways || kind == api.FormulaSometime || kind == api.FormulaUntil
}

// choices returns the nodes with a value of their own.
func (t *tableau) choices() []int {
	var out []int
	for i, n := range t.formula {
		if t.first[i] == i && (n.Kind == api.FormulaAtom || isTemporal(n.Kind)) {
			out = append(out, i)
		}
	}
	return out
}

// valued returns the values of all nodes if the choices have the bits of a row, and whether they are a type.
func (t *tableau) valued(choices []int, row int) (api.PtlType, bool) {
	out := make(api.PtlType, len(t.formula))
	for i, c := range choices {
		out[c] = row >> i & 1
	}
	right := true
	for i, n := range t.formula {
		a, b := 0, 0
		if len(n.Args) > 0 {
			a, b = out[n.Args[0]], out[n.Args[len(n.Args)-1]]
		}
		out[i] = out[t.first[i]]
		switch n.Kind {
		case api.FormulaTrue:
			out[i] = 1
		case api.FormulaNot:
			out[i] = 1 - a
		case api.FormulaAnd:
			out[i] = a * b
		case api.FormulaOr:
			out[i] = max(a, b)
		case api.FormulaImplies:
			out[i] = max(1-a, b)
		case api.FormulaAlways:
			right = right && out[i] <= a
		case api.FormulaSometime:
			right = right && out[i] >= a
		case api.FormulaUntil:
			right = right && out[i] >= b && out[i] <= max(a, b)
		}
	}
	return out, right
}

// connect finds for each type those that follow it: of each temporal node the value is given there, unless it is settled now.
func (t *tableau) connect() {
	nodes := slices.DeleteFunc(t.choices(), func(i int) bool { return t.formula[i].Kind == api.FormulaAtom })
	for _, s := range t.types {
		var open []int
		for _, i := range nodes {
			if !t.settled(s, i) {
				open = append(open, i)
			}
		}
		next := []int{}
		for j, u := range t.types {
			if !slices.ContainsFunc(open, func(i int) bool { return s[i] != u[i] }) {
				next = append(next, j)
			}
		}
		t.next = append(t.next, next)
	}
}

// settled says whether a temporal node's value depends on a type alone.
func (t *tableau) settled(s api.PtlType, i int) bool {
	n := t.formula[i]
	last := s[n.Args[len(n.Args)-1]]
	switch n.Kind {
	case api.FormulaAlways:
		return last == 0
	case api.FormulaSometime:
		return last == 1
	}
	return last == 1 || s[n.Args[0]] == 0
}

// waits says whether a node asks for something in a type, and is not fulfilled there.
func (t *tableau) waits(s api.PtlType, i int) bool {
	n := t.formula[i]
	wanted := 1
	if n.Kind == api.FormulaAlways {
		wanted = 0
	}
	return s[i] == wanted && s[n.Args[len(n.Args)-1]] != wanted
}

// letter returns the atoms that are true in a type.
func (t *tableau) letter(s api.PtlType) int {
	out := 0
	for i, n := range t.formula {
		if n.Kind == api.FormulaAtom {
			out |= s[i] << n.N
		}
	}
	return out
}
