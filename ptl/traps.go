package ptl

import (
	"slices"

	"stutter/api"
	"stutter/digraph"
)

// removal is a tableau of which types are removed.
type removal struct {
	*tableau
	before  digraph.Graph
	removed []bool
	traps   []api.PtlTrap
}

func (t *tableau) removal() *removal {
	return &removal{tableau: t, before: t.next.Reversed(), removed: make([]bool, len(t.types))}
}

func (r *removal) remove(trap api.PtlTrap) {
	for _, s := range trap.Types {
		r.removed[s] = true
	}
}

// check returns the error of a trap.
func (r *removal) check(trap api.PtlTrap) api.Errno {
	switch {
	case trap.Node != api.None && (trap.Node < 0 || trap.Node >= len(r.formula)):
		return api.ErrRange
	case trap.Node != api.None && !isTemporal(r.formula[trap.Node].Kind):
		return api.ErrKind
	case len(trap.Types) == 0:
		return api.ErrEmpty
	}
	for i, s := range trap.Types {
		switch {
		case s < 0 || s >= len(r.types):
			return api.ErrMissing
		case i > 0 && s <= trap.Types[i-1]:
			return api.ErrOrder
		case r.removed[s]:
			return api.ErrDouble
		}
	}
	for _, s := range trap.Types {
		if trap.Node != api.None && !r.waits(r.types[s], trap.Node) {
			return api.ErrProof
		}
		for _, next := range r.next[s] {
			if _, within := slices.BinarySearch(trap.Types, next); !r.removed[next] && (!within || trap.Node == api.None) {
				return api.ErrProof
			}
		}
	}
	return api.OK
}

// rooted returns the types that are left in which the root has a value.
func (r *removal) rooted(value int) []int {
	var out []int
	for i, s := range r.types {
		if !r.removed[i] && s[len(s)-1] == value {
			out = append(out, i)
		}
	}
	return out
}

// leaves removes types as long as one is left in which the root has a value, and there are traps; it says whether one is left then.
func (r *removal) leaves(value int) bool {
	for again := true; again; {
		again = false
		for node := api.None; node < len(r.formula); node++ {
			if len(r.rooted(value)) == 0 {
				return false
			}
			if node != api.None && (!isTemporal(r.formula[node].Kind) || r.first[node] != node) {
				continue
			}
			if trap := r.trap(node); len(trap.Types) > 0 {
				r.traps = append(r.traps, trap)
				r.remove(trap)
				again = true
			}
		}
	}
	return true
}

// trap returns the greatest trap of a node, perhaps without types.
func (r *removal) trap(node int) api.PtlTrap {
	out := api.PtlTrap{Node: node}
	if node == api.None {
		for s, l := range r.next {
			if !r.removed[s] && !slices.ContainsFunc(l, func(n int) bool { return !r.removed[n] }) {
				out.Types = append(out.Types, s)
			}
		}
		return out
	}
	// What does not wait, and what leads there, is no trap.
	escapes := make([]bool, len(r.types))
	var todo []int
	for s, values := range r.types {
		if !r.removed[s] && !r.waits(values, node) {
			escapes[s] = true
			todo = append(todo, s)
		}
	}
	for len(todo) > 0 {
		last := len(todo) - 1
		s := todo[last]
		todo = todo[:last]
		for _, p := range r.before[s] {
			if !r.removed[p] && !escapes[p] {
				escapes[p] = true
				todo = append(todo, p)
			}
		}
	}
	for s := range r.types {
		if !r.removed[s] && !escapes[s] {
			out.Types = append(out.Types, s)
		}
	}
	return out
}

// word returns a word through types that are left, if there is a short one; what is left has types to go to, and fulfils all.
func (r *removal) word() (api.Word, bool) {
	left := r.rooted(1)
	g := make(digraph.Graph, len(r.types))
	for s, l := range r.next {
		if !r.removed[s] {
			g[s] = slices.DeleteFunc(slices.Clone(l), func(n int) bool { return r.removed[n] })
		}
	}
	reached := g.From(left)
	for _, component := range g.Components() {
		if !reached[component[0]] || !g.HasEdge(component) || !r.fulfils(component) {
			continue
		}
		for _, s := range component {
			path := g.Path(left, func(n int) bool { return n == s }, func(int) bool { return true })
			loop := r.loop(g, component, s)
			if len(path)-1+len(loop) <= api.MaxWordLetters {
				return api.Word{Prefix: r.letters(path[:len(path)-1]), Loop: r.letters(loop)}, true
			}
		}
	}
	return api.Word{}, false
}

func (r *removal) letters(l []int) []int {
	var out []int
	for _, s := range l {
		out = append(out, r.letter(r.types[s]))
	}
	return out
}

// asking returns the nodes that may wait.
func (r *removal) asking() []int {
	return slices.DeleteFunc(r.choices(), func(i int) bool { return !isTemporal(r.formula[i].Kind) })
}

// fulfils says whether no node waits in all types of a component.
func (r *removal) fulfils(component []int) bool {
	for _, node := range r.asking() {
		if !slices.ContainsFunc(component, func(s int) bool { return !r.waits(r.types[s], node) }) {
			return false
		}
	}
	return true
}

// loop returns a way round from a type of a component, on which each node does not wait somewhere.
func (r *removal) loop(g digraph.Graph, component []int, from int) []int {
	within := func(n int) bool {
		_, is := slices.BinarySearch(component, n)
		return is
	}
	loop := []int{from}
	for _, node := range r.asking() {
		free := func(n int) bool { return !r.waits(r.types[n], node) }
		if !slices.ContainsFunc(loop, free) {
			path := g.Path(loop[len(loop)-1:], free, within)
			loop = append(loop, path[1:]...)
		}
	}
	back := g.Round(loop[len(loop)-1], func(n int) bool { return n == from }, within)
	return append(loop, back[1:len(back)-1]...)
}
