package reduce

import (
	"slices"

	"stutter/api"
)

// first finds the first of the shortest paths from a state along permitted edges whose last edge is wanted, as state, action, state, ..; nil if there is none.
func (m *moves) first(s int, permitted, wanted func(e api.Edge) bool) []int {
	paths := [][]int{{s}}
	seen := map[int]bool{s: true}
	for len(paths) > 0 {
		var longer [][]int
		for _, p := range paths {
			for _, i := range m.from[p[len(p)-1]] {
				e := m.Edges[i]
				if !permitted(e) {
					continue
				}
				next := append(slices.Clone(p), e.Action, e.To)
				if wanted(e) {
					return next
				}
				if !seen[e.To] {
					seen[e.To] = true
					longer = append(longer, next)
				}
			}
		}
		paths = longer
	}
	return nil
}

// dependentPath is a path without chosen actions up to an action that depends on a chosen one: the state after this action is no part of it.
func (m *moves) dependentPath(s int, chosen []int) []int {
	p := m.first(s, func(e api.Edge) bool { return !slices.Contains(chosen, e.Action) }, func(e api.Edge) bool {
		return slices.ContainsFunc(chosen, func(a int) bool { return m.dependent(a, e.Action) })
	})
	if p == nil {
		return nil
	}
	return p[:len(p)-1]
}

// faultIn is the first of the rules 1 to 3 that a choice breaks in a state; false if it breaks none.
func (m *moves) faultIn(s int, chosen []int, visible []bool) (api.ReduceFault, bool) {
	if len(chosen) == len(m.enabled[s]) {
		return api.ReduceFault{}, false
	}
	if len(chosen) == 0 {
		return api.ReduceFault{State: s, Rule: 1}, true
	}
	if p := m.dependentPath(s, chosen); p != nil {
		return api.ReduceFault{State: s, Rule: 2, Path: p}, true
	}
	for _, a := range chosen {
		if visible[a] {
			return api.ReduceFault{State: s, Rule: 3, Path: []int{a}}, true
		}
	}
	return api.ReduceFault{}, false
}

// circle is the first of the shortest circles through a state without a state in which all enabled actions are chosen.
func (m *moves) circle(s int, c [][]int) []int {
	part := func(t int) bool { return len(c[t]) < len(m.enabled[t]) }
	if !part(s) {
		return nil
	}
	return m.first(s, func(e api.Edge) bool { return slices.Contains(c[e.From], e.Action) && part(e.To) }, func(e api.Edge) bool { return e.To == s })
}

// CheckChoice accepts a right choice.
func CheckChoice(g api.Graph, labels []int, c [][]int) (api.ReduceFault, api.Errno) {
	if err := checkLabels(g, labels); err != api.OK {
		return api.ReduceFault{}, err
	}
	m := movesOf(g)
	if err := m.checkForm(c); err != api.OK {
		return api.ReduceFault{}, err
	}
	visible := visibleIn(g, labels)
	for s := range g.States {
		if f, is := m.faultIn(s, c[s], visible); is {
			return f, api.ErrBroken
		}
	}
	for s := range g.States {
		if p := m.circle(s, c); p != nil {
			return api.ReduceFault{State: s, Rule: 4, Path: p}, api.ErrBroken
		}
	}
	return api.ReduceFault{}, api.OK
}

// ChoiceFor returns a right choice: one action alone where this is right, and all where some would wait for ever.
func ChoiceFor(g api.Graph, labels []int) ([][]int, api.Errno) {
	if err := checkLabels(g, labels); err != api.OK {
		return nil, err
	}
	m := movesOf(g)
	visible := visibleIn(g, labels)
	c := make([][]int, g.States)
	for s := range c {
		c[s] = slices.Clone(m.enabled[s])
		for _, a := range m.enabled[s] {
			if _, broken := m.faultIn(s, []int{a}, visible); !broken {
				c[s] = []int{a}
				break
			}
		}
	}
	for s := range c {
		if m.circle(s, c) != nil {
			c[s] = slices.Clone(m.enabled[s])
		}
	}
	return c, api.OK
}
