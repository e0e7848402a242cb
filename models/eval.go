package models

import "slices"

// mostFree is how many slots a memory of values has at most as its key.
const mostFree = 12

// run is one evaluation in one world.
type run struct {
	*World
	slots []int
}

// Value returns the individual that the expression is in a world.
func (f *Formula) Value(w *World) int {
	f.root.forget()
	return run{w, f.slots}.value(f.root)
}

func (t *term) forget() {
	clear(t.memo)
	for _, l := range [][]*term{t.kids, t.sets} {
		for _, k := range l {
			k.forget()
		}
	}
}

func truth(b bool) int {
	if b {
		return 1
	}
	return 0
}

func (r run) holds(t *term) bool { return r.value(t) == 1 }

func (r run) value(t *term) int {
	switch t.what {
	case isGlobal:
		return r.Values[t.number]
	case isBound:
		return r.slots[t.number]
	case isTable:
		at := 0
		for _, k := range t.kids {
			at = at*r.Size + r.value(k)
		}
		return r.Tables[t.number][at]
	case isEqual:
		return truth(r.value(t.kids[0]) == r.value(t.kids[1]))
	case isMember:
		return r.Members[r.value(t.kids[0])*r.Size+r.value(t.kids[1])]
	case isNot:
		return truth(!r.holds(t.kids[0]))
	case isAnd:
		return truth(r.holds(t.kids[0]) && r.holds(t.kids[1]))
	case isOr:
		return truth(r.holds(t.kids[0]) || r.holds(t.kids[1]))
	case isImplies:
		return truth(!r.holds(t.kids[0]) || r.holds(t.kids[1]))
	case isIff:
		return truth(r.holds(t.kids[0]) == r.holds(t.kids[1]))
	case isAll, isSome:
		return r.remembered(t)
	}
	return t.number
}

// remembered evaluates a quantifier once for the values on which it depends, since quantifiers within one another are asked again and again.
func (r run) remembered(t *term) int {
	if len(t.free) > mostFree {
		return r.quantified(t)
	}
	key := 0
	for _, s := range t.free {
		key = key*3 + r.slots[s]
	}
	if v, is := t.memo[key]; is {
		return v
	}
	v := r.quantified(t)
	if t.memo == nil {
		t.memo = map[int]int{}
	}
	t.memo[key] = v
	return v
}

func (r run) quantified(t *term) int {
	sets := make([]int, 0, len(t.sets))
	for _, s := range t.sets {
		sets = append(sets, r.value(s))
	}
	wanted := t.what == isSome
	return truth(r.finds(t, sets, 0, wanted) == wanted)
}

// finds looks for individuals for the names from one on for which the body is as wanted.
func (r run) finds(t *term, sets []int, from int, wanted bool) bool {
	if from == len(t.slots) {
		return r.holds(t.kids[0]) == wanted
	}
	for i := range r.Size {
		if len(sets) > 0 && r.Members[i*r.Size+sets[from]] == 0 {
			continue
		}
		r.slots[t.slots[from]] = i
		if r.finds(t, sets, from+1, wanted) {
			return true
		}
		if !t.used[from] {
			break
		}
	}
	return false
}

// HasMembers says whether it matters who is a member of whom.
func (f *Formula) HasMembers() bool { return f.root.hasMembers() }

func (t *term) hasMembers() bool {
	return t.what == isMember || len(t.sets) > 0 || slices.ContainsFunc(t.kids, (*term).hasMembers)
}
