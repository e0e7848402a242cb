package tableau

import (
	"math/bits"
	"slices"
)

// open returns what must hold from the next letter on, and what else may.
func (m *maker) open(x state) (set, set) {
	if x.first {
		must := m.musts[m.root]
		return must, m.within[m.root] &^ must
	}
	var must, may set
	for _, b := range bitsOf(x.now) {
		i := m.temporal[b]
		must |= m.musts[i]
		may |= m.within[i]
	}
	return must, may &^ must
}

// choices are the whole sets that may come next to a state, ascending. If parts are lasting they may be guessed, so that all must be tried.
func (m *maker) choices(x state) []set {
	var out []set
	if m.lasting == 0 {
		for _, s := range m.asks(x) {
			out = append(out, m.whole(s))
		}
		slices.Sort(out)
		return slices.Compact(out)
	}
	must, may := m.open(x)
	if bits.OnesCount64(uint64(may)) > maxFree {
		m.large = true
		return nil
	}
	for sub := may; ; sub = (sub - 1) & may {
		if next := must | sub; m.whole(next) == next {
			out = append(out, next)
		}
		if sub == 0 {
			slices.Sort(out)
			return out
		}
	}
}

// asks are the sets that a state may ask for: one of each of its parts, together.
func (m *maker) asks(x state) []set {
	if x.first {
		return m.asksOf(m.root)
	}
	out := []set{0}
	for _, b := range bitsOf(x.now) {
		out = m.together(out, m.asksOf(m.temporal[b]))
	}
	return out
}

// asksOf are the sets for which a part may ask.
func (m *maker) asksOf(i int) []set {
	if l, is := m.known[i]; is {
		return l
	}
	p := m.parts[i]
	out := []set{0}
	var later []set
	if p.isTemporal() {
		later = []set{1 << m.bit[i]}
	}
	switch p.kind {
	case formAnd:
		out = m.together(m.asksOf(p.a), m.asksOf(p.b))
	case formOr:
		out = m.either(m.asksOf(p.a), m.asksOf(p.b))
	case formAlways:
		out = m.together(m.asksOf(p.a), later)
	case formSometime:
		out = m.either(m.asksOf(p.a), later)
	case formUntil:
		out = m.either(m.asksOf(p.b), m.together(m.asksOf(p.a), later))
	case formRelease:
		out = m.together(m.asksOf(p.b), m.either(m.asksOf(p.a), later))
	}
	m.known[i] = out
	return out
}

// either is sets of two lists.
func (m *maker) either(a, b []set) []set {
	out := slices.Concat(a, b)
	slices.Sort(out)
	return slices.Compact(out)
}

// together is sets of a list, each with each of another one.
func (m *maker) together(a, b []set) []set {
	if m.large = m.large || len(a)*len(b) > maxAsks; m.large {
		return nil
	}
	var out []set
	for _, x := range a {
		for _, y := range b {
			out = append(out, x|y)
		}
	}
	slices.Sort(out)
	return slices.Compact(out)
}

// whole is a set with all that its parts imply. (Other sets would be further states that mean the same.)
func (m *maker) whole(s set) set {
	out := s
	for _, b := range bitsOf(s) {
		out |= m.implied[m.temporal[b]]
	}
	return out
}

// without is the greatest whole set in another one that has not some part.
func (m *maker) without(s set, b int) set {
	out := s &^ (1 << b)
	for _, c := range bitsOf(s) {
		if m.implied[m.temporal[c]].has(b) {
			out &^= 1 << c
		}
	}
	return out
}
