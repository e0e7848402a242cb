package machine

import (
	"cmp"
	"slices"

	"stutter/api"
	"stutter/values"
)

// maxLists is of how many lists use is made at most, if something is evaluated behind each: behind more of them there would be too many steps.
const maxLists = api.MaxEvalSteps + 1

// maxTold is how many successors are told apart: more are too many.
const maxTold = api.MaxSuccessors + 1

// assignment is a value for each variable that is assigned, nil for the others.
type assignment []*api.Value

// or has the values of another list where there are none.
func (a assignment) or(other assignment) assignment {
	out := slices.Clone(a)
	for i := range other {
		if out[i] == nil {
			out[i] = other[i]
		}
	}
	return out
}

// fits says whether no variable has another value than is wanted.
func (a assignment) fits(wanted assignment) bool {
	for i, v := range wanted {
		if v != nil && a[i] != nil && !values.Same(*v, *a[i]) {
			return false
		}
	}
	return true
}

// compare orders lists by their values; what is not assigned comes first.
func (a assignment) compare(b assignment) int {
	for i, v := range a {
		var order int
		switch {
		case v == nil && b[i] == nil:
		case v == nil:
			order = -1
		case b[i] == nil:
			order = 1
		default:
			order = values.Compare(*v, *b[i])
		}
		if order != 0 {
			return order
		}
	}
	return 0
}

// numbered is a list, and how many were given before it.
type numbered struct {
	assignment
	number int
}

// compareNumbered orders lists by their values, the first one that was given before the others with the same values.
func compareNumbered(a, b numbered) int {
	return cmp.Or(a.compare(b.assignment), cmp.Compare(a.number, b.number))
}

// gathering is the lists of assignments that an action gives, each once.
type gathering struct {
	most   int        // of how many lists use is made
	least  bool       // of more lists use is made of the least ones, otherwise of those that were given first
	wanted assignment // values that the lists must have, if they assign these variables
	open   bool       // a list was given that does not assign all variables
	full   bool       // the first ones of all are as many as are of use
	given  int
	all    []numbered
}

// add adds a list, if it is of use; false if no list can be that comes behind it in the order of values.
func (g *gathering) add(l assignment) bool {
	g.open = g.open || slices.Contains(l, nil)
	switch {
	case !l.fits(g.wanted):
		return true
	case g.full && !g.least:
		return false
	case g.full:
		at, is := slices.BinarySearchFunc(g.all[:g.most], l, func(a numbered, b assignment) int { return a.compare(b) })
		if is || at == g.most {
			return is
		}
	}
	g.given++
	g.all = append(g.all, numbered{slices.Clone(l), g.given})
	if len(g.all) >= 2*g.most {
		g.tidy()
	}
	return true
}

func compareNumbers(a, b numbered) int { return cmp.Compare(a.number, b.number) }

// tidy leaves out lists that are there twice, and those that are of no use. What remains is in the order of values, or in that in which it was given.
func (g *gathering) tidy() {
	slices.SortFunc(g.all, compareNumbered)
	g.all = slices.CompactFunc(g.all, func(a, b numbered) bool { return a.compare(b.assignment) == 0 })
	if !g.least {
		slices.SortFunc(g.all, compareNumbers)
	}
	g.all = g.all[:min(len(g.all), g.most)]
	g.full = len(g.all) == g.most
}

// lists are the lists in the order in which they were given.
func (g *gathering) lists() []assignment {
	g.tidy()
	slices.SortFunc(g.all, compareNumbers)
	var out []assignment
	for _, l := range g.all {
		out = append(out, l.assignment)
	}
	return out
}

// states are the lists as states, ascending, each once; all variables must be assigned.
func (g *gathering) states() []api.State {
	g.tidy()
	slices.SortFunc(g.all, compareNumbered)
	var out []api.State
	for _, l := range g.all {
		x := make(api.State, len(l.assignment))
		for i, v := range l.assignment {
			x[i] = *v
		}
		out = append(out, x)
	}
	return out
}
