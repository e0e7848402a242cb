package fair

import (
	"slices"

	"stutter/api"
	"stutter/digraph"
	"stutter/lasso"
	"stutter/walks"
)

// maxLetter is the greatest set of atoms, maxRank the greatest rank.
const (
	maxLetter = 1<<api.MaxLetterBits - 1
	maxRank   = 10000
)

// checkResponse is the error of a labelled graph, then of a response.
func checkResponse(x api.Labelled, r api.Response) api.Errno {
	if _, err := lasso.CheckLabels(x); err != api.OK {
		return err
	}
	for _, atoms := range [2]int{r.Given, r.Then} {
		if atoms < 0 || atoms > maxLetter {
			return api.ErrRange
		}
	}
	return api.OK
}

// pendingGraph is the edges among pending states, to other ones, and which states are pending.
func pendingGraph(x api.Labelled, r api.Response) (digraph.Graph, []bool) {
	edges := edgesOf(x.Graph)
	reached := edges.From(x.Graph.Init)
	open := func(s int) bool { return x.Labels[s]&r.Then != r.Then }
	var given []int
	for s, label := range x.Labels {
		if reached[s] && open(s) && label&r.Given == r.Given {
			given = append(given, s)
		}
	}
	among := make(digraph.Graph, len(edges))
	for s, next := range edges {
		for _, to := range next {
			if to != s && open(s) && open(to) {
				among[s] = append(among[s], to)
			}
		}
	}
	pending := among.From(given)
	for s := range among {
		if !pending[s] {
			among[s] = nil
		}
	}
	return among, pending
}

// PendingOf returns the pending states of a response.
func PendingOf(x api.Labelled, r api.Response) ([]int, api.Errno) {
	if err := checkResponse(x, r); err != api.OK {
		return nil, err
	}
	_, pending := pendingGraph(x, r)
	var out []int
	for s, is := range pending {
		if is {
			out = append(out, s)
		}
	}
	return out, api.OK
}

// helpful is a weakly fair action that is enabled in all states of a component, and of which no step stays within it.
func helpful(w *walks.Walks, component []int) int {
	in := inside(component)
	for _, a := range w.Weak {
		stays := func(s int) bool {
			return !w.Enabled[s][a] || slices.ContainsFunc(w.Next[s], func(to int) bool {
				return in(to) && slices.Contains(w.Taken[[2]int{s, to}], a)
			})
		}
		if !slices.ContainsFunc(component, stays) {
			return a
		}
	}
	return api.None
}

// RankOf returns a proof by ranks of a response.
func RankOf(x api.Labelled, r api.Response) (api.RankProof, api.Errno) {
	if err := checkResponse(x, r); err != api.OK {
		return api.RankProof{}, err
	}
	if len(x.Strong) > 0 {
		return api.RankProof{}, api.ErrRefused
	}
	among, pending := pendingGraph(x, r)
	w := walks.Of(x)
	p := api.RankProof{Ranks: make([]int, len(pending)), Helpful: slices.Repeat([]int{api.None}, len(pending))}
	for _, c := range among.Components() { // a component comes behind those that it reaches
		if !pending[c[0]] {
			continue
		}
		h := helpful(w, c)
		if h == api.None {
			return api.RankProof{}, api.ErrBroken
		}
		rank := 0
		in := inside(c)
		for _, s := range c {
			for _, to := range among[s] {
				if !in(to) {
					rank = max(rank, p.Ranks[to]+1)
				}
			}
		}
		for _, s := range c {
			p.Ranks[s], p.Helpful[s] = rank, h
		}
	}
	return p, api.OK
}

// CheckRank accepts right proofs, and returns the greatest rank.
func CheckRank(x api.Labelled, r api.Response, p api.RankProof) (int, api.Errno) {
	if err := checkResponse(x, r); err != api.OK {
		return 0, err
	}
	if len(p.Ranks) != x.Graph.States || len(p.Helpful) != x.Graph.States {
		return 0, api.ErrShape
	}
	among, pending := pendingGraph(x, r)
	w := walks.Of(x)
	greatest := 0
	for s, rank := range p.Ranks {
		h := p.Helpful[s]
		switch {
		case !pending[s] && (rank != 0 || h != api.None):
			return s, api.ErrForm
		case !pending[s]:
			continue
		case rank < 0 || rank > maxRank:
			return s, api.ErrRange
		case !slices.Contains(x.Weak, h):
			return s, api.ErrMissing
		case !w.Enabled[s][h]:
			return s, api.ErrNone
		}
		for _, t := range among[s] {
			stays := p.Ranks[t] == rank && p.Helpful[t] == h && !slices.Contains(w.Taken[[2]int{s, t}], h)
			if p.Ranks[t] >= rank && !stays {
				return s, api.ErrProof
			}
		}
		greatest = max(greatest, rank)
	}
	return greatest, api.OK
}
