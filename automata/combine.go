package automata

import (
	"slices"

	"stutter/api"
)

// numbering gives numbers to pairs as they are found.
type numbering struct {
	numbers map[[2]int]int
	pairs   [][2]int
}

func (n *numbering) of(a, b int) int {
	key := [2]int{a, b}
	at, is := n.numbers[key]
	if !is {
		at = len(n.pairs)
		n.numbers[key] = at
		n.pairs = append(n.pairs, key)
	}
	return at
}

// sized is an automaton, unless it is too large.
func sized(a api.Automaton) (api.Automaton, api.Errno) {
	if a.States > api.MaxAutomatonStates || len(a.Edges) > api.MaxAutomatonEdges || len(a.Accept) > api.MaxAcceptSets {
		return api.Automaton{}, api.ErrLarge
	}
	return a, api.OK
}

// leaving is for each state the edges that leave it.
func leaving(a api.Automaton) [][]api.AutomatonEdge {
	out := make([][]api.AutomatonEdge, a.States)
	for _, e := range a.Edges {
		out[e.From] = append(out[e.From], e)
	}
	return out
}

// pairsIn are the pairs whose first (or second) part is in a set.
func (n *numbering) pairsIn(set []int, side int) []int {
	var out []int
	for i, p := range n.pairs {
		if slices.Contains(set, p[side]) {
			out = append(out, i)
		}
	}
	return out
}

// Both returns an automaton that accepts the words that both accept.
func Both(a, b api.Automaton) (api.Automaton, api.Errno) {
	for _, x := range []api.Automaton{a, b} {
		if _, err := CheckAutomaton(x); err != api.OK {
			return api.Automaton{}, err
		}
	}
	n := &numbering{numbers: map[[2]int]int{}}
	first, second := leaving(a), leaving(b)
	var out api.Automaton
	for _, s := range a.Init {
		for _, t := range b.Init {
			out.Init = append(out.Init, n.of(s, t))
		}
	}
	for i := 0; i < len(n.pairs) && i <= api.MaxAutomatonStates && len(out.Edges) <= api.MaxAutomatonEdges; i++ {
		for _, e := range first[n.pairs[i][0]] {
			for _, f := range second[n.pairs[i][1]] {
				joined := api.AutomatonEdge{From: i, Need: e.Need | f.Need, Never: e.Never | f.Never}
				if possible(joined) {
					joined.To = n.of(e.To, f.To)
					out.Edges = append(out.Edges, joined)
				}
			}
		}
	}
	out.States = len(n.pairs)
	for _, set := range a.Accept {
		out.Accept = append(out.Accept, n.pairsIn(set, 0))
	}
	for _, set := range b.Accept {
		out.Accept = append(out.Accept, n.pairsIn(set, 1))
	}
	return sized(out)
}

// OneSet returns an automaton with the same words that has exactly one set: copies wait for one set after the other.
func OneSet(a api.Automaton) (api.Automaton, api.Errno) {
	if _, err := CheckAutomaton(a); err != api.OK {
		return api.Automaton{}, err
	}
	sets := a.Accept
	if len(sets) == 0 {
		all := make([]int, a.States)
		for i := range all {
			all[i] = i
		}
		sets = [][]int{all}
	}
	n := &numbering{numbers: map[[2]int]int{}}
	var out api.Automaton
	for _, s := range a.Init {
		out.Init = append(out.Init, n.of(s, 0))
	}
	for i := 0; i < len(n.pairs) && i <= api.MaxAutomatonStates && len(out.Edges) <= api.MaxAutomatonEdges; i++ {
		s, copied := n.pairs[i][0], n.pairs[i][1]
		next := copied
		if slices.Contains(sets[copied], s) {
			next = (copied + 1) % len(sets)
		}
		for _, e := range a.Edges {
			if e.From == s {
				out.Edges = append(out.Edges, api.AutomatonEdge{From: i, To: n.of(e.To, next), Need: e.Need, Never: e.Never})
			}
		}
	}
	out.States = len(n.pairs)
	last := []int{}
	for i, p := range n.pairs {
		if p[1] == 0 && slices.Contains(sets[0], p[0]) {
			last = append(last, i)
		}
	}
	out.Accept = [][]int{last}
	return sized(out)
}

// Trimmed returns an automaton with its useful states alone, and their old numbers.
func Trimmed(a api.Automaton) (api.Automaton, []int, api.Errno) {
	if _, err := CheckAutomaton(a); err != api.OK {
		return api.Automaton{}, nil, err
	}
	g := graphOf(a)
	reached := g.From(a.Init)
	live := g.Reversed().From(slices.Concat(accepting(g, a.Init, a.Accept, itself)...))
	var old []int
	number := map[int]int{}
	for s := range a.States {
		if reached[s] && live[s] {
			number[s] = len(old)
			old = append(old, s)
		}
	}
	kept := func(l []int) []int {
		out := []int{}
		for _, s := range l {
			if at, is := number[s]; is {
				out = append(out, at)
			}
		}
		return out
	}
	out := api.Automaton{States: len(old), Init: kept(a.Init)}
	for _, e := range a.Edges {
		from, is := number[e.From]
		to, is2 := number[e.To]
		if is && is2 {
			out.Edges = append(out.Edges, api.AutomatonEdge{From: from, To: to, Need: e.Need, Never: e.Never})
		}
	}
	for _, set := range a.Accept {
		out.Accept = append(out.Accept, kept(set))
	}
	return out, old, api.OK
}
