// Package digraph finds strongly connected components and shortest paths.
package digraph

import "slices"

// Graph is for each node those to which an edge leads.
type Graph [][]int

// visit is a search for components.
type visit struct {
	Graph
	number, low []int
	stack       []int
	on          []bool
	next        int
	found       [][]int
}

// Components returns the strongly connected components, each behind those that it reaches; nodes ascend.
func (g Graph) Components() [][]int {
	v := &visit{Graph: g, number: make([]int, len(g)), low: make([]int, len(g)), on: make([]bool, len(g))}
	for n := range g {
		if v.number[n] == 0 {
			v.enter(n)
		}
	}
	return v.found
}

func (v *visit) enter(n int) {
	v.next++
	v.number[n], v.low[n], v.on[n] = v.next, v.next, true
	v.stack = append(v.stack, n)
	for _, m := range v.Graph[n] {
		if v.number[m] == 0 {
			v.enter(m)
			v.low[n] = min(v.low[n], v.low[m])
		} else if v.on[m] {
			v.low[n] = min(v.low[n], v.number[m])
		}
	}
	if v.low[n] < v.number[n] {
		return
	}
	at := len(v.stack) - 1
	for v.stack[at] != n {
		at--
	}
	component := slices.Clone(v.stack[at:])
	for _, m := range component {
		v.on[m] = false
	}
	v.stack = v.stack[:at]
	slices.Sort(component)
	v.found = append(v.found, component)
}

// HasEdge says whether an edge leads from one of some ascending nodes to one of them.
func (g Graph) HasEdge(nodes []int) bool {
	for _, n := range nodes {
		for _, m := range g[n] {
			if _, is := slices.BinarySearch(nodes, m); is {
				return true
			}
		}
	}
	return false
}

// From returns for each node whether it is reached from some nodes.
func (g Graph) From(nodes []int) []bool {
	out := make([]bool, len(g))
	todo := slices.Clone(nodes)
	for _, n := range nodes {
		out[n] = true
	}
	for len(todo) > 0 {
		n := todo[len(todo)-1]
		todo = todo[:len(todo)-1]
		for _, m := range g[n] {
			if !out[m] {
				out[m] = true
				todo = append(todo, m)
			}
		}
	}
	return out
}

// Reversed returns the graph with edges in the other direction.
func (g Graph) Reversed() Graph {
	out := make(Graph, len(g))
	for n, l := range g {
		for _, m := range l {
			out[m] = append(out[m], n)
		}
	}
	return out
}

// Distances is for each node along how many edges it is reached from some nodes at least, or -1.
func (g Graph) Distances(from []int) []int {
	out := slices.Repeat([]int{-1}, len(g))
	todo := slices.Clone(from)
	for _, n := range from {
		out[n] = 0
	}
	for i := 0; i < len(todo); i++ {
		for _, m := range g[todo[i]] {
			if out[m] < 0 {
				out[m] = out[todo[i]] + 1
				todo = append(todo, m)
			}
		}
	}
	return out
}

// Path returns a shortest path from one of some nodes to one that is wanted, both included, through nodes that may be entered; nil if there is none.
func (g Graph) Path(from []int, wanted, enter func(n int) bool) []int {
	for _, n := range from {
		if wanted(n) {
			return []int{n}
		}
	}
	return g.walk(from, wanted, enter)
}

// Round returns a shortest path with at least one edge from a node to one that is wanted.
func (g Graph) Round(from int, wanted, enter func(n int) bool) []int {
	return g.walk([]int{from}, wanted, enter)
}

// walk goes along at least one edge.
func (g Graph) walk(from []int, wanted, enter func(n int) bool) []int {
	seen := make([]bool, len(g))
	reached := slices.Clone(from)
	origin := make([]int, len(from))
	for i := range origin {
		origin[i] = -1
	}
	for i := 0; i < len(reached); i++ {
		for _, m := range g[reached[i]] {
			if seen[m] || !enter(m) {
				continue
			}
			seen[m] = true
			reached, origin = append(reached, m), append(origin, i)
			if !wanted(m) {
				continue
			}
			var out []int
			for at := len(reached) - 1; at >= 0; at = origin[at] {
				out = append(out, reached[at])
			}
			slices.Reverse(out)
			return out
		}
	}
	return nil
}
