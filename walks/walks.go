// Package walks prepares labelled graphs for those who walk along their steps.
package walks

import (
	"cmp"
	"slices"

	"stutter/api"
)

// CompareEdges orders edges.
func CompareEdges(a, b api.Edge) int {
	return cmp.Or(cmp.Compare(a.From, b.From), cmp.Compare(a.To, b.To), cmp.Compare(a.Action, b.Action))
}

// IsGraph says whether first states and edges are within a graph, and ascend.
func IsGraph(g api.Graph) bool {
	if g.States < 0 || len(g.Edges) > api.MaxEdges {
		return false
	}
	for i, s := range g.Init {
		if s < 0 || s >= g.States || i > 0 && s <= g.Init[i-1] {
			return false
		}
	}
	for i, e := range g.Edges {
		if min(e.From, e.To, e.Action) < 0 || max(e.From, e.To) >= g.States || e.Action >= api.MaxActions || i > 0 && CompareEdges(g.Edges[i-1], e) >= 0 {
			return false
		}
	}
	return true
}

// Walks is a valid labelled graph, ready to be walked.
type Walks struct {
	api.Labelled
	Next    [][]int // for each state those to which a step leads, ascending
	Enabled [][]bool
	Taken   map[[2]int][]int // the actions of which a step is one
}

// Of prepares a valid labelled graph.
func Of(x api.Labelled) *Walks {
	w := &Walks{Labelled: x, Taken: map[[2]int][]int{}}
	for s := range x.Graph.States {
		w.Next = append(w.Next, []int{s})
		w.Enabled = append(w.Enabled, make([]bool, len(x.Steps)))
	}
	for _, e := range x.Graph.Edges {
		if e.From != e.To {
			w.Next[e.From] = append(w.Next[e.From], e.To)
			w.Enabled[e.From][e.Action] = true
			key := [2]int{e.From, e.To}
			w.Taken[key] = append(w.Taken[key], e.Action)
		}
	}
	for s := range w.Next {
		slices.Sort(w.Next[s])
		w.Next[s] = slices.Compact(w.Next[s])
	}
	return w
}

// Permits says whether a step is permitted.
func (w *Walks) Permits(from, to int) bool {
	_, is := slices.BinarySearch(w.Next[from], to)
	return is
}

// bit is the letter of an atom, or none.
func bit(atom int) int {
	if atom == api.None {
		return 0
	}
	return 1 << atom
}

// Letter is the letter of a state and the step that follows it.
func (w *Walks) Letter(from, to int) int {
	letter := w.Labels[from]
	for _, a := range w.Taken[[2]int{from, to}] {
		letter |= bit(w.Labelled.Steps[a])
	}
	for a, is := range w.Enabled[from] {
		if is {
			letter |= bit(w.Labelled.Enabled[a])
		}
	}
	return letter
}
