package fair

import (
	"slices"

	"stutter/api"
	"stutter/digraph"
	"stutter/walks"
)

// product is a labelled graph with an automaton: the node s * States + q. Loops stay within some states of the graph.
type product struct {
	*walks.Walks
	automaton api.Automaton
	graph     digraph.Graph
	within    []bool // by states of the graph
	sources   []int
}

func productOf(w *walks.Walks, a api.Automaton, within []bool) *product {
	p := &product{Walks: w, automaton: a, within: within, graph: make(digraph.Graph, w.Graph.States*a.States)}
	for s, next := range w.Next {
		for _, to := range next {
			letter := w.Letter(s, to)
			for _, e := range a.Edges {
				if letter&e.Need == e.Need && letter&e.Never == 0 {
					from := s*a.States + e.From
					p.graph[from] = append(p.graph[from], to*a.States+e.To)
				}
			}
		}
	}
	for i := range p.graph {
		slices.Sort(p.graph[i])
		p.graph[i] = slices.Compact(p.graph[i])
	}
	for _, s := range w.Graph.Init {
		for _, q := range a.Init {
			p.sources = append(p.sources, s*a.States+q)
		}
	}
	return p
}

func (p *product) stateOf(node int) int { return node / p.automaton.States }

// inside says whether a node is one of some ascending ones.
func inside(nodes []int) func(n int) bool {
	return func(n int) bool {
		_, is := slices.BinarySearch(nodes, n)
		return is
	}
}

// restricted is the graph with the edges among some nodes alone.
func (p *product) restricted(nodes []int) digraph.Graph {
	in := inside(nodes)
	out := make(digraph.Graph, len(p.graph))
	for _, n := range nodes {
		for _, m := range p.graph[n] {
			if in(m) {
				out[n] = append(out[n], m)
			}
		}
	}
	return out
}

// need is what a loop must have: a node of some kind, or a step of an action (None: no step helps).
type need struct {
	node   func(n int) bool
	action int
}

// isStep says whether an edge is a step of an action.
func (p *product) isStep(from, to, action int) bool {
	return slices.Contains(p.Taken[[2]int{p.stateOf(from), p.stateOf(to)}], action)
}

// leaves says whether a step of an action leads from a node to one of some nodes.
func (p *product) leaves(n, action int, nodes []int) bool {
	in := inside(nodes)
	return slices.ContainsFunc(p.graph[n], func(m int) bool { return in(m) && p.isStep(n, m, action) })
}

// needs is what a loop in a component must have to be accepting and fair; strong actions that must not be enabled come second.
func (p *product) needs(component []int) ([]need, []int) {
	var out []need
	var bad []int
	for _, set := range p.automaton.Accept {
		in := inside(set)
		out = append(out, need{func(n int) bool { return in(n % p.automaton.States) }, api.None})
	}
	for _, a := range p.Weak {
		out = append(out, need{func(n int) bool { return !p.Enabled[p.stateOf(n)][a] }, a})
	}
	for _, a := range p.Strong {
		enabled := func(n int) bool { return p.Enabled[p.stateOf(n)][a] }
		if !slices.ContainsFunc(component, enabled) {
			continue
		}
		step := need{func(int) bool { return false }, a}
		if !p.isMet(step, component) {
			bad = append(bad, a)
		}
		out = append(out, step)
	}
	return out, bad
}

// isMet says whether nodes, with the edges among them, have what is needed.
func (p *product) isMet(x need, nodes []int) bool {
	return slices.ContainsFunc(nodes, func(n int) bool {
		return x.node(n) || x.action != api.None && p.leaves(n, x.action, nodes)
	})
}

// good are the components, within some nodes, that have accepting and fair loops; states in which a strong action is enabled that is never taken are left out again and again.
func (p *product) good(nodes []int) [][]int {
	g := p.restricted(nodes)
	in := inside(nodes)
	var out [][]int
	for _, c := range g.Components() {
		if !in(c[0]) || !g.HasEdge(c) {
			continue
		}
		needs, bad := p.needs(c)
		if len(bad) > 0 {
			rest := slices.DeleteFunc(slices.Clone(c), func(n int) bool {
				return slices.ContainsFunc(bad, func(a int) bool { return p.Enabled[p.stateOf(n)][a] })
			})
			out = append(out, p.good(rest)...)
			continue
		}
		if !slices.ContainsFunc(needs, func(x need) bool { return !p.isMet(x, c) }) {
			out = append(out, c)
		}
	}
	return out
}

// round is a loop in a good component from a node; the node itself comes first, and not again at the end.
func (p *product) round(component []int, start int) []int {
	g := p.restricted(component)
	all := func(int) bool { return true }
	left, _ := p.needs(component)
	out := []int{start}
	drop := func() {
		last := out[len(out)-1]
		left = slices.DeleteFunc(left, func(x need) bool {
			return x.node(last) || len(out) > 1 && x.action != api.None && p.isStep(out[len(out)-2], last, x.action)
		})
	}
	for drop(); len(left) > 0; {
		wanted := func(n int) bool {
			return slices.ContainsFunc(left, func(x need) bool {
				return x.node(n) || x.action != api.None && p.leaves(n, x.action, component)
			})
		}
		leg := g.Path([]int{out[len(out)-1]}, wanted, all)
		for _, n := range leg[1:] {
			out = append(out, n)
			drop()
		}
		last := out[len(out)-1]
		for _, x := range left {
			if x.action != api.None && p.leaves(last, x.action, component) {
				at := slices.IndexFunc(g[last], func(m int) bool { return p.isStep(last, m, x.action) })
				out = append(out, g[last][at])
				drop()
				break
			}
		}
	}
	if last := out[len(out)-1]; last != start || len(out) == 1 {
		back := g.Round(last, func(n int) bool { return n == start }, all)
		return append(out, back[1:len(back)-1]...)
	}
	return out[:len(out)-1]
}

// find returns an accepting and fair behaviour, a short one of those that are looked at; false if there is none.
func (p *product) find() (api.Lasso, bool) {
	var nodes []int
	for n := range p.graph {
		if p.within[p.stateOf(n)] {
			nodes = append(nodes, n)
		}
	}
	reached := p.graph.From(p.sources)
	best, found := api.Lasso{}, false
	for _, c := range p.good(nodes) {
		if !reached[c[0]] {
			continue
		}
		path := p.graph.Path(p.sources, inside(c), func(int) bool { return true })
		loop := p.round(c, path[len(path)-1])
		l := api.Lasso{Prefix: p.states(path[:len(path)-1]), Loop: p.states(loop)}
		if !found || len(l.Prefix)+len(l.Loop) < len(best.Prefix)+len(best.Loop) {
			best, found = l, true
		}
	}
	return best, found
}

// states are the states of nodes.
func (p *product) states(nodes []int) []int {
	var out []int
	for _, n := range nodes {
		out = append(out, p.stateOf(n))
	}
	return out
}
