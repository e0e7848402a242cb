package tableau

import (
	"slices"

	"stutter/api"
)

// state is a state of the automaton.
type state struct {
	first   bool // it is the first one: the whole formula must hold
	now     set  // what must hold
	watched int  // in the last phase the number of the lasting part that is watched; otherwise None
}

// maker makes the states of an automaton as they are found, and edges.
type maker struct {
	*tableau
	known   map[int][]set // the sets for which parts may ask
	numbers map[state]int
	states  []state
	edges   []api.AutomatonEdge
	large   bool
}

// move is what may come next: the letters for which there is nothing else that asks for less, and all that lead there.
type move struct {
	next              set
	wanted, permitted letters
}

// ask says what may come next, and with which letters; spare whether a part of it may be left out wherever that is possible.
type ask struct {
	may   func(next set) bool
	kept  func(next set) letters
	spare func(next set, b int) bool
}

// frozen are the parts that do not change in the last phase.
func (m *maker) frozen() set { return m.always | m.lasting }

// number is the number of a state.
func (m *maker) number(x state) int {
	n, is := m.numbers[x]
	if !is {
		n = len(m.states)
		m.numbers[x] = n
		m.states = append(m.states, x)
	}
	return n
}

// edge makes edges for some letters, and perhaps further ones that are permitted.
func (m *maker) edge(from, to state, wanted, permitted letters) {
	if wanted.isEmpty() {
		return
	}
	cubes, _ := cubesOf(wanted, permitted, len(m.atoms))
	a, b := m.number(from), m.number(to)
	for _, c := range cubes {
		m.edges = append(m.edges, api.AutomatonEdge{From: a, To: b, Need: m.letter(c.need), Never: m.letter(c.never)})
	}
}

// letter is the letter with the atoms that have numbers.
func (m *maker) letter(numbers int) int {
	out := 0
	for i, a := range m.atoms {
		out |= numbers >> i & 1 << a
	}
	return out
}

// kept is the letters with which all that must hold in a state does so.
func (m *maker) kept(x state, next set) letters {
	if x.first {
		return m.anew(next)[m.root]
	}
	out := m.constant(true)
	for _, b := range bitsOf(x.now) {
		out = out.and(m.tableau.kept(m.temporal[b], x.now, next))
	}
	return out
}

// moves returns what may come next to a state.
func (m *maker) moves(x state, a ask) []move {
	found := map[set]letters{}
	kept := func(next set) letters {
		l, is := found[next]
		if !is {
			if l = m.constant(false); a.may(next) {
				l = a.kept(next)
			}
			found[next] = l
		}
		return l
	}
	var out []move
	for _, next := range m.choices(x) {
		wanted := kept(next)
		for _, b := range bitsOf(next) {
			if wanted.isEmpty() {
				break
			}
			less := m.without(next, b)
			if !slices.ContainsFunc(bitsOf(next&^less), func(c int) bool { return !a.spare(next, c) }) {
				wanted = wanted.without(kept(less))
			}
		}
		if !wanted.isEmpty() {
			out = append(out, move{next, wanted, kept(next)})
		}
	}
	return out
}

// from makes the edges that leave a state.
func (m *maker) from(x state) {
	kept := func(next set) letters { return m.kept(x, next) }
	if x.watched != api.None {
		m.watch(x, kept)
		return
	}
	all := ask{may: func(set) bool { return true }, kept: kept, spare: func(next set, b int) bool { return m.spare(x.now, next, b) }}
	for _, v := range m.moves(x, all) {
		m.edge(x, state{now: v.next, watched: api.None}, v.wanted, v.permitted)
	}
	if x.now&m.lasting == 0 {
		return
	}
	last := ask{may: func(next set) bool { return m.mayBeLast(x.now, next) }, kept: kept, spare: m.isFree}
	for _, v := range m.moves(x, last) {
		m.edge(x, state{now: v.next}, v.wanted, v.permitted)
	}
}

// spare says whether a part of what comes next may be left out. A lasting one may be if nothing waits for it; or if nothing begins to do so, and it was given up before.
func (m *maker) spare(now, next set, b int) bool {
	if !m.lasting.has(b) {
		return true
	}
	users := m.users[b] & next
	return users&^now == 0 && (users == 0 || !now.has(b))
}

// isFree says whether a part may change in the last phase.
func (m *maker) isFree(_ set, b int) bool { return !m.frozen().has(b) }

// mayBeLast says whether the last phase may begin: nothing is given up then. Alwayses may begin for which lasting parts ask again and again, and lasting parts that what begins, or comes and goes, may ask for.
func (m *maker) mayBeLast(now, next set) bool {
	if now&m.frozen()&^next != 0 {
		return false
	}
	more := next & m.frozen() &^ now
	var within set
	for _, b := range bitsOf(next & m.lasting) {
		within |= m.within[m.temporal[b]]
	}
	for _, b := range bitsOf(more) {
		if m.always.has(b) && !within.has(b) || m.lasting.has(b) && m.users[b]&(more|next&^m.always) == 0 {
			return false
		}
	}
	return true
}

// watch makes the edges of a state of the last phase. It goes on to the next lasting part when what the watched one asks for is there; there are at least two numbers, so that it can be seen that it does.
func (m *maker) watch(x state, kept func(next set) letters) {
	lasting := bitsOf(x.now & m.lasting)
	same := func(next set) bool { return next&m.frozen() == x.now&m.frozen() }
	seen := func(next set) letters {
		if x.watched >= len(lasting) {
			return m.constant(true)
		}
		return m.asked(m.parts[m.temporal[lasting[x.watched]]].a, x.now, next, false)
	}
	for _, v := range m.moves(x, ask{same, kept, m.isFree}) {
		m.edge(x, state{now: v.next, watched: x.watched}, v.wanted.without(seen(v.next)), v.permitted)
	}
	both := func(next set) letters { return kept(next).and(seen(next)) }
	further := (x.watched + 1) % max(2, len(lasting))
	for _, v := range m.moves(x, ask{same, both, m.isFree}) {
		m.edge(x, state{now: v.next, watched: further}, v.wanted, v.permitted)
	}
}

// isTooLarge says whether there are too many states or edges.
func (m *maker) isTooLarge() bool {
	return m.large || len(m.states) > api.MaxAutomatonStates || len(m.edges) > api.MaxAutomatonEdges
}

// automaton makes the automaton, unless it is too large.
func (t *tableau) automaton() (api.Automaton, bool) {
	m := &maker{tableau: t, known: map[int][]set{}, numbers: map[state]int{}}
	first := state{first: true, watched: api.None}
	if b, is := t.bit[t.root]; is && t.lasting == 0 {
		first = state{now: 1 << b, watched: api.None}
	}
	m.number(first)
	for i := 0; i < len(m.states) && !m.isTooLarge(); i++ {
		m.from(m.states[i])
	}
	accept := m.accept()
	if m.isTooLarge() || len(accept) > api.MaxAcceptSets {
		return api.Automaton{}, false
	}
	return api.Automaton{States: len(m.states), Init: []int{0}, Edges: m.edges, Accept: accept}, true
}

// accept is for each part that asks for something at last the states in which it does not; and, if there are lasting parts, those without them, or of the last phase with the first, and with the second number.
func (m *maker) accept() [][]int {
	var out [][]int
	add := func(in func(x state) bool) {
		l := []int{}
		for n, x := range m.states {
			if in(x) {
				l = append(l, n)
			}
		}
		out = append(out, l)
	}
	for b, i := range m.temporal {
		if k := m.parts[i].kind; (k == formSometime || k == formUntil) && !m.lasting.has(b) {
			add(func(x state) bool { return !x.now.has(b) })
		}
	}
	if m.lasting != 0 {
		for number := range 2 {
			add(func(x state) bool { return x.now&m.lasting == 0 || x.watched == number })
		}
	}
	return out
}
