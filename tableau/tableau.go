// Package tableau makes automata of temporal formulas, or of their negations.
//
// A state is what must hold from now on: parts of the formula, each of which asks something of the letter and of what comes next. Several automata are tried.
//
// In the plain one a part asks anew at each letter: what <>g holds by may be g, or <>g from the next letter on.
//
// The other ones use that <>g holds up to the last g, and never again behind it. Where an always (or an until or a release, as long as they wait) asks for <>g at each letter, <>g is lasting: when that part begins, it is guessed whether <>g holds; if it does, it must hold from then on, is no more asked anew, and is given up at a g, once and for all. This needs much fewer edges where several such parts must hold at once. If it is never given up, there must be a g again and again: this is watched in a last phase, in which neither alwayses nor lasting parts change, for one lasting part after the other.
package tableau

import (
	"math/bits"
	"slices"

	"stutter/api"
)

// The limits of what is tried: how many sets are put together; how many parts may be open in what comes next, if all choices of them are gone through; and the greatest choice of lasting parts of which the smaller ones are tried, too.
const (
	maxAsks    = 20000
	maxFree    = 10
	maxLasting = 31
)

// set is a set of temporal parts: a bit for each, by their order.
type set uint64

func (s set) has(bit int) bool { return s>>bit&1 == 1 }

// tableau is a formula, prepared for an automaton.
type tableau struct {
	normal
	root     int
	temporal []int       // the temporal parts
	bit      map[int]int // their places in this list
	within   []set       // for each part the temporal ones in it, itself included
	musts    []set       // for each part the temporal ones that hold from the next letter on wherever it holds
	implied  []set       // for each part the alwayses and releases that hold wherever it holds
	atoms    []int
	literals []letters // for each part that asks for a letter alone those with which it holds
	always   set
	lasting  set
	users    []set             // for each temporal part those for which it is lasting
	ahead    map[set][]letters // for what holds from the next letter on the letters with which each part holds
}

// Of returns an automaton that accepts the words on which a valid formula holds, or does not; false if all that are tried are too large.
func Of(l api.Formula, positive bool) (api.Automaton, bool) {
	if a, ok := With(l, positive, 0); ok {
		return a, true
	}
	all := LastingIn(l, positive)
	for some := all; some > 0; some-- { // a part is sometimes better not lasting
		if a, ok := With(l, positive, some); ok {
			return a, true
		}
		if all > maxLasting {
			break
		}
	}
	return api.Automaton{}, false
}

// LastingIn returns which parts may be lasting: a bit for each.
func LastingIn(l api.Formula, positive bool) int {
	t := tableauOf(l, positive)
	t.findLasting()
	return 1<<bits.OnesCount64(uint64(t.lasting)) - 1
}

// With returns the automaton of which some parts are lasting: those of which the bits are set.
func With(l api.Formula, positive bool, some int) (api.Automaton, bool) {
	t := tableauOf(l, positive)
	t.findLasting()
	for i, b := range bitsOf(t.lasting) {
		if some>>i&1 == 0 {
			t.leave(b)
		}
	}
	return t.automaton()
}

func tableauOf(l api.Formula, positive bool) *tableau {
	t := &tableau{normal: normal{index: map[part]int{}}, bit: map[int]int{}, ahead: map[set][]letters{}}
	t.root = t.of(l, len(l)-1, positive)
	for i, p := range t.parts {
		t.look(i, p)
	}
	slices.Sort(t.atoms)
	t.atoms = slices.Compact(t.atoms)
	t.users = make([]set, len(t.temporal))
	for _, p := range t.parts {
		t.literals = append(t.literals, t.literal(p))
	}
	return t
}

// look notes what is within a part.
func (t *tableau) look(i int, p part) {
	var in, must, now set
	switch {
	case p.hasTwo():
		in = t.within[p.a] | t.within[p.b]
	case p.isTemporal():
		in = t.within[p.a]
	case p.kind == formAtom || p.kind == formNoAtom:
		t.atoms = append(t.atoms, p.atom)
	}
	itself := set(1) << len(t.temporal)
	switch p.kind {
	case formAnd:
		must, now = t.musts[p.a]|t.musts[p.b], t.implied[p.a]|t.implied[p.b]
	case formOr, formUntil:
		must, now = t.musts[p.a]&t.musts[p.b], t.implied[p.a]&t.implied[p.b]
	case formAlways:
		must, now = t.musts[p.a]|itself, t.implied[p.a]|itself
		t.always |= itself
	case formRelease:
		must, now = t.musts[p.b], t.implied[p.b]|itself
	}
	if p.isTemporal() {
		t.bit[i] = len(t.temporal)
		in |= itself
		t.temporal = append(t.temporal, i)
	}
	t.within, t.musts, t.implied = append(t.within, in), append(t.musts, must), append(t.implied, now)
}

// findLasting finds the lasting parts: those for which nothing asks but what waits.
func (t *tableau) findLasting() {
	asked := func(i int, see func(b int)) {
		t.eachSometime(i, func(i int) { see(t.bit[i]) })
	}
	for b, i := range t.temporal {
		if waits, is := t.parts[i].waits(); is {
			asked(waits, func(c int) {
				t.users[c] |= 1 << b
				t.lasting |= 1 << c
			})
		}
	}
	for _, i := range t.temporal {
		if ends, is := t.parts[i].ends(); is {
			asked(ends, t.leave)
		}
	}
}

// leave makes a part that is not lasting.
func (t *tableau) leave(b int) {
	t.users[b] = 0
	t.lasting &^= 1 << b
}

// waits is what a part asks of each letter, as long as it waits.
func (p part) waits() (int, bool) {
	switch p.kind {
	case formAlways, formUntil:
		return p.a, true
	case formRelease:
		return p.b, true
	}
	return 0, false
}

// ends is what a part asks of the letter at which it ends.
func (p part) ends() (int, bool) {
	switch p.kind {
	case formSometime, formRelease:
		return p.a, true
	case formUntil:
		return p.b, true
	}
	return 0, false
}

// eachSometime goes through the sometimes for which a part asks.
func (t *tableau) eachSometime(i int, see func(i int)) {
	switch p := t.parts[i]; p.kind {
	case formAnd, formOr:
		t.eachSometime(p.a, see)
		t.eachSometime(p.b, see)
	case formSometime:
		see(i)
	}
}

func (t *tableau) constant(is bool) letters {
	if is {
		return every(len(t.atoms))
	}
	return make(letters, size(len(t.atoms)))
}

// literal is the letters with which a part holds that asks for nothing else.
func (t *tableau) literal(p part) letters {
	at, _ := slices.BinarySearch(t.atoms, p.atom)
	switch p.kind {
	case formTrue, formFalse:
		return t.constant(p.kind == formTrue)
	case formAtom:
		return withAtom(at, len(t.atoms))
	case formNoAtom:
		return t.constant(true).without(withAtom(at, len(t.atoms)))
	}
	return nil
}

// holds is the letters with which a part holds, if those of its operands are known, and what holds from the next letter on.
func (t *tableau) holds(i int, operand func(i int) letters, next set) letters {
	p := t.parts[i]
	later := p.isTemporal() && next.has(t.bit[i])
	switch p.kind {
	case formTrue, formFalse, formAtom, formNoAtom:
		return t.literals[i]
	case formAnd:
		return operand(p.a).and(operand(p.b))
	case formOr:
		return operand(p.a).or(operand(p.b))
	case formAlways:
		return operand(p.a).and(t.constant(later))
	case formSometime:
		return operand(p.a).or(t.constant(later))
	case formUntil:
		return operand(p.b).or(operand(p.a).and(t.constant(later)))
	}
	return operand(p.b).and(operand(p.a).or(t.constant(later)))
}

// anew is for each part the letters with which it holds, if nothing but what comes next is known.
func (t *tableau) anew(next set) []letters {
	if l, is := t.ahead[next]; is {
		return l
	}
	var l []letters
	for i := range t.parts {
		l = append(l, t.holds(i, func(j int) letters { return l[j] }, next))
	}
	t.ahead[next] = l
	return l
}

// asked is the letters with which a part holds that is asked for by one that must hold now. What must hold now is true; a lasting part for which something waits is false otherwise.
func (t *tableau) asked(i int, now, next set, waiting bool) letters {
	p := t.parts[i]
	if !p.isTemporal() {
		return t.holds(i, func(j int) letters { return t.asked(j, now, next, waiting) }, next)
	}
	b := t.bit[i]
	switch {
	case now.has(b):
		return t.constant(true)
	case waiting && t.lasting.has(b):
		return t.constant(false)
	}
	return t.anew(next)[i]
}

// kept is the letters with which a part that must hold now does so.
func (t *tableau) kept(i int, now, next set) letters {
	waits, is := t.parts[i].waits()
	return t.holds(i, func(j int) letters { return t.asked(j, now, next, is && j == waits) }, next)
}

// bitsOf are the places of a set.
func bitsOf(s set) []int {
	var out []int
	for ; s != 0; s &= s - 1 {
		out = append(out, bits.TrailingZeros64(uint64(s)))
	}
	return out
}
