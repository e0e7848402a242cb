package solver

// engine propagates units by two watched literals of each clause; a literal's place in a list is 2v, or 2v+1 if it is below 0.
type engine struct {
	clauses [][]int
	watches [][]int
	value   []int // of each variable: its literal that is known, or 0
	reason  []int // of each variable: the clause that gave it, or noClause
	level   []int
	trail   []int
	limits  []int // where each decision stands in the trail
	head    int
	broken  bool // a conflict without decisions
}

const noClause = -1

func started(vars int, lists [][]int) *engine {
	e := &engine{watches: make([][]int, 2*vars+2), value: make([]int, vars+1), reason: make([]int, vars+1), level: make([]int, vars+1)}
	for _, c := range lists {
		e.add(c)
	}
	return e
}

func place(n int) int {
	if n < 0 {
		return -2*n + 1
	}
	return 2 * n
}

func (e *engine) holds(n int) bool { return e.value[variable(n)] == n }
func (e *engine) fails(n int) bool { return e.value[variable(n)] == -n }

func (e *engine) know(n, reason int) {
	v := variable(n)
	e.value[v], e.reason[v], e.level[v] = n, reason, len(e.limits)
	e.trail = append(e.trail, n)
}

// add takes a clause while there are no decisions; what fails then fails for good.
func (e *engine) add(c []int) {
	var open []int
	for _, n := range c {
		if e.holds(n) {
			return
		}
		if !e.fails(n) {
			open = append(open, n)
		}
	}
	switch len(open) {
	case 0:
		e.broken = true
	case 1:
		e.know(open[0], noClause)
	default:
		e.watch(open)
	}
	if !e.broken && e.propagate() != noClause {
		e.broken = true
	}
}

// watch stores a clause whose first two literals are watched.
func (e *engine) watch(c []int) int {
	i := len(e.clauses)
	e.clauses = append(e.clauses, c)
	for _, n := range c[:2] {
		e.watches[place(n)] = append(e.watches[place(n)], i)
	}
	return i
}

// propagate returns the clause that is a conflict, or noClause.
func (e *engine) propagate() int {
	for e.head < len(e.trail) {
		n := e.trail[e.head]
		e.head++
		if i := e.visit(-n); i != noClause {
			return i
		}
	}
	return noClause
}

// visit looks for another literal to watch in each clause that watches one that fails.
func (e *engine) visit(failing int) int {
	at := place(failing)
	list := e.watches[at]
	kept := list[:0]
	for k, i := range list {
		c := e.clauses[i]
		if c[0] == failing {
			c[0], c[1] = c[1], c[0]
		}
		if !e.holds(c[0]) && e.moved(i) {
			continue
		}
		kept = append(kept, i)
		if e.holds(c[0]) {
			continue
		}
		if e.fails(c[0]) {
			e.watches[at] = append(kept, list[k+1:]...)
			return i
		}
		e.know(c[0], i)
	}
	e.watches[at] = kept
	return noClause
}

// moved makes a clause watch a literal that does not fail instead of its second one, if there is one.
func (e *engine) moved(i int) bool {
	c := e.clauses[i]
	for k := 2; k < len(c); k++ {
		if !e.fails(c[k]) {
			c[1], c[k] = c[k], c[1]
			e.watches[place(c[1])] = append(e.watches[place(c[1])], i)
			return true
		}
	}
	return false
}

func (e *engine) decide(n int) {
	e.limits = append(e.limits, len(e.trail))
	e.know(n, noClause)
}

// back takes everything back that came after the first decisions.
func (e *engine) back(decisions int) {
	if decisions >= len(e.limits) {
		return
	}
	start := e.limits[decisions]
	for _, n := range e.trail[start:] {
		e.value[variable(n)] = 0
	}
	e.trail, e.limits = e.trail[:start], e.limits[:decisions]
	e.head = start
}

// follows returns whether a clause follows by propagation; it leaves the engine as it was.
func (e *engine) follows(clause []int) bool {
	if e.broken {
		return true
	}
	defer e.back(0)
	e.limits = append(e.limits, len(e.trail))
	for _, n := range clause {
		if e.holds(n) {
			return true
		}
		if !e.fails(n) {
			e.know(-n, noClause)
		}
	}
	return e.propagate() != noClause
}
