package auxiliary

import (
	"slices"

	"stutter/api"
	"stutter/walks"
)

// checkPath is the error of a path of a graph.
func checkPath(g api.Graph, path []int) api.Errno {
	if len(path) == 0 {
		return api.ErrEmpty
	}
	if len(path) > api.MaxItems {
		return api.ErrLarge
	}
	if slices.ContainsFunc(path, func(s int) bool { return s < 0 || s >= g.States }) {
		return api.ErrRange
	}
	for i, s := range path {
		if i == 0 && !slices.Contains(g.Init, s) || i > 0 && firstStep(g, path[i-1], s) == api.None {
			return api.ErrClash
		}
	}
	return api.OK
}

// firstStep is the first step between two states, or None.
func firstStep(g api.Graph, from, to int) int {
	return slices.IndexFunc(g.Edges, func(e api.Edge) bool { return e.From == from && e.To == to })
}

// checkExtended is the error of an extended graph.
func checkExtended(x api.AuxGraph) api.Errno {
	if !walks.IsGraph(x.Graph) {
		return api.ErrForm
	}
	if len(x.Base) != x.Graph.States || len(x.Aux) != x.Graph.States {
		return api.ErrShape
	}
	for i, b := range x.Base {
		if b < 0 || b >= api.MaxStates || !isAux(x.Aux[i]) {
			return api.ErrRange
		}
	}
	for i := 1; i < len(x.Base); i++ {
		if compareStates(state{x.Base[i-1], x.Aux[i-1]}, state{x.Base[i], x.Aux[i]}) >= 0 {
			return api.ErrOrder
		}
	}
	return api.OK
}

// Hidden returns a path of an extended graph without what only the variable shows.
func Hidden(x api.AuxGraph, path []int) ([]int, api.Errno) {
	if err := checkExtended(x); err != api.OK {
		return nil, err
	}
	if err := checkPath(x.Graph, path); err != api.OK {
		return nil, err
	}
	var out []int
	for i, s := range path {
		if i > 0 && x.Base[s] == x.Base[path[i-1]] && onlyTicks(x.Graph, path[i-1], s) {
			continue
		}
		out = append(out, x.Base[s])
	}
	return out, api.OK
}

// onlyTicks says whether all steps between two states are ticks.
func onlyTicks(g api.Graph, from, to int) bool {
	return !slices.ContainsFunc(g.Edges, func(e api.Edge) bool {
		return e.From == from && e.To == to && e.Action != api.AuxTick
	})
}

// lifter is an extended graph in which a path is lifted, or the error of adding or of the path.
func lifter(g api.Graph, v variable, err api.Errno, path []int) (extended, api.Errno) {
	if err != api.OK {
		return extended{}, err
	}
	x, err := v.sized()
	if err != api.OK {
		return extended{}, err
	}
	return x, checkPath(g, path)
}

// LiftHistory returns the path of the graph extended by a history variable.
func LiftHistory(g api.Graph, h api.AuxHistory, path []int) ([]int, api.Errno) {
	v, err := historyOf(g, h)
	x, err := lifter(g, v, err, path)
	if err != api.OK {
		return nil, err
	}
	at := state{path[0], h.Start[path[0]]}
	out := []int{x.number[at]}
	for _, t := range path[1:] {
		at = state{t, h.Next[firstStep(g, at.base, t)][at.aux]}
		out = append(out, x.number[at])
	}
	return out, api.OK
}

// LiftProphecy returns the first path of the graph extended by a prophecy variable.
func LiftProphecy(g api.Graph, p api.AuxProphecy, path []int) ([]int, api.Errno) {
	v, err := prophecyOf(g, p)
	x, err := lifter(g, v, err, path)
	if err != api.OK {
		return nil, err
	}
	next := func(from state, to int) []int {
		var out []int
		v.steps(from, func(s state, _ int) {
			if s.base == to {
				out = append(out, s.aux)
			}
		})
		slices.Sort(out)
		return out
	}
	can := make([][]bool, len(path)) // which values can go on to the end
	for i, s := range slices.Backward(path) {
		can[i] = make([]bool, p.Count)
		for w := range can[i] {
			can[i][w] = i == len(path)-1 || slices.ContainsFunc(next(state{s, w}, path[i+1]), func(w int) bool { return can[i+1][w] })
		}
	}
	var out []int
	at := state{path[0], slices.Index(can[0], true)}
	for i := range path {
		if i > 0 {
			l := next(at, path[i])
			at = state{path[i], l[slices.IndexFunc(l, func(w int) bool { return can[i][w] })]}
		}
		out = append(out, x.number[at])
	}
	return out, api.OK
}

// LiftStutter returns the path of the graph extended by a stuttering variable.
func LiftStutter(g api.Graph, s api.AuxStutter, path []int) ([]int, api.Errno) {
	v, err := stutterOf(g, s)
	x, err := lifter(g, v, err, path)
	if err != api.OK {
		return nil, err
	}
	out := []int{x.number[state{path[0], 0}]}
	for i, t := range path[1:] {
		for c := s.Count[firstStep(g, path[i], t)]; c > 0; c-- {
			out = append(out, x.number[state{path[i], c}])
		}
		out = append(out, x.number[state{t, 0}])
	}
	return out, api.OK
}
