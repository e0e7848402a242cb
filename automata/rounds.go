package automata

import (
	"slices"

	"stutter/api"
	"stutter/digraph"
)

// rounds looks for short loops of a graph that meet all sets.
type rounds struct {
	digraph.Graph
	reversed digraph.Graph
	met      []uint // for each node the sets that it is in
	sets     int
	done     []int // for each node, with each choice of sets, the last search that went on from it
	searches int
}

func roundsOf(g digraph.Graph, sets [][]int, stateOf func(node int) int) *rounds {
	r := &rounds{Graph: g, reversed: g.Reversed(), sets: len(sets), done: make([]int, len(g)<<len(sets))}
	for n := range g {
		var met uint
		for i, set := range sets {
			if _, is := slices.BinarySearch(set, stateOf(n)); is {
				met |= 1 << i
			}
		}
		r.met = append(r.met, met)
	}
	return r
}

// back is along how many edges each node leads to a start at least: through a node of a set (itself, too), and in any way; None if it does not.
func (r *rounds) back(start, set int) (through, all []int) {
	nodes := len(r.met)
	out := slices.Repeat([]int{api.None}, 2*nodes) // up to a node of the set, then behind it
	var list []int
	reach := func(n, far int) {
		if out[n] != api.None {
			return
		}
		out[n] = far
		list = append(list, n)
		if m := n - nodes; m >= 0 && r.met[m]>>set&1 == 1 && out[m] == api.None {
			out[m] = far
			list = append(list, m)
		}
	}
	reach(nodes+start, 0)
	for i := 0; i < len(list); i++ {
		at := list[i]
		for _, n := range r.reversed[at%nodes] {
			reach(at-at%nodes+n, out[at]+1)
		}
	}
	return out[:nodes:nodes], out[nodes:]
}

// search looks for a shortest loop from a start: what may lead to a loop of the fewest edges is tried first.
type search struct {
	*rounds
	start   int
	through [][]int // by sets and nodes
	all     []int
	visits  []visit
	queue   [][]int // visits by how many edges a loop by way of them has at least
}

// visit is a node, how many edges lead to it, the sets that were met up to it, and the visit before it.
type visit struct {
	node, edges, before int
	sum                 uint
}

func (r *rounds) searchFrom(start int) *search {
	r.searches++
	s := &search{rounds: r, start: start}
	_, s.all = r.back(start, r.sets)
	for set := range r.sets {
		through, _ := r.back(start, set)
		s.through = append(s.through, through)
	}
	return s
}

// put adds a visit, unless it leads to no loop with at most so many edges.
func (s *search) put(v visit, most int) {
	least := s.all[v.node]
	for set, far := range s.through {
		if v.sum>>set&1 == 1 {
			continue
		}
		if far[v.node] == api.None {
			return
		}
		least = max(least, far[v.node])
	}
	least += v.edges
	if s.all[v.node] == api.None || least > most || s.done[s.key(v)] == s.searches {
		return
	}
	for len(s.queue) <= least {
		s.queue = append(s.queue, nil)
	}
	s.queue[least] = append(s.queue[least], len(s.visits))
	s.visits = append(s.visits, v)
}

func (s *search) key(v visit) int { return v.node<<s.sets | int(v.sum) }

// loop returns the nodes of a shortest loop with at most so many edges, the start first; nothing if there is none.
func (s *search) loop(most int) []int {
	s.put(visit{node: s.start, before: api.None, sum: s.met[s.start]}, most)
	for at := 0; at < len(s.queue); at++ {
		for len(s.queue[at]) > 0 {
			last := len(s.queue[at]) - 1 // the latest one has come farthest
			from := s.queue[at][last]
			s.queue[at] = s.queue[at][:last]
			v := s.visits[from]
			if s.done[s.key(v)] == s.searches {
				continue
			}
			s.done[s.key(v)] = s.searches
			for _, n := range s.Graph[v.node] {
				if n == s.start && v.sum == 1<<s.sets-1 && v.edges < most {
					return s.upTo(from)
				}
				s.put(visit{n, v.edges + 1, from, v.sum | s.met[n]}, most)
			}
		}
	}
	return nil
}

// upTo returns the nodes of a visit and of those before it.
func (s *search) upTo(at int) []int {
	var out []int
	for ; at != api.None; at = s.visits[at].before {
		out = append(out, s.visits[at].node)
	}
	slices.Reverse(out)
	return out
}

// entered returns a way from sources to a node, and a shortest loop that meets all sets from it on, with at most so many nodes together: by the first node for which there is one. If there is none, the loop of the first node is longer. It returns nothing if no node is given.
func (r *rounds) entered(sources, starts []int, most int) (path, loop []int) {
	far := r.Distances(sources)
	order := slices.Clone(starts)
	slices.SortStableFunc(order, func(a, b int) int { return far[a] - far[b] })
	for _, n := range order {
		if loop := r.searchFrom(n).loop(most - far[n]); len(loop) > 0 {
			return r.Path(sources, func(m int) bool { return m == n }, anywhere), loop
		}
	}
	if len(order) == 0 {
		return nil, nil
	}
	first := order[0]
	return r.Path(sources, func(m int) bool { return m == first }, anywhere), r.searchFrom(first).loop(len(r.done))
}

func anywhere(int) bool { return true }
