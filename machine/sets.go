package machine

import (
	"slices"
	"strings"

	"stutter/api"
	"stutter/exprs"
	"stutter/lazy"
	"stutter/values"
)

// set evaluates a node as a set.
func (m *Machine) set(t *exprs.Tree, e scene) api.Lazy {
	m.step(t, e)
	if l, is := m.unlisted(t, e); is {
		return l
	}
	if l, is := follow(m, t, e, m.set); is {
		return l
	}
	v := m.valueOf(t, e)
	if v.Kind != api.ValueSet {
		fail(t, e, api.ErrType)
	}
	if len(v.Items) > api.MaxMembers {
		fail(t, e, api.ErrLarge)
	}
	return api.Lazy{{Kind: api.LazyListed, Members: v.Items}}
}

// unlisted evaluates a node that is kept unlisted.
func (m *Machine) unlisted(t *exprs.Tree, e scene) (api.Lazy, bool) {
	switch t.Kind {
	case api.ExprName:
		return m.builtIn(t, e)
	case api.ExprFuncs:
		return m.over(t, e, api.LazyFunctions), true
	case api.ExprRecords:
		return m.records(t, e), true
	case api.ExprApply:
		return m.unlistedApplied(t, e)
	}
	return nil, false
}

// builtIn is a set that has a name.
func (m *Machine) builtIn(t *exprs.Tree, e scene) (api.Lazy, bool) {
	if m.lookup(t.Text, e) != nil {
		return nil, false
	}
	switch t.Text {
	case "BOOLEAN":
		return api.Lazy{{Kind: api.LazyListed, Members: []api.Value{values.Bool(false), values.Bool(true)}}}, true
	case "STRING":
		return api.Lazy{{Kind: api.LazyStrings}}, true
	case "Nat":
		return api.Lazy{{Kind: api.LazyNaturals}}, true
	case "Int":
		return api.Lazy{{Kind: api.LazyIntegers}}, true
	}
	return nil, false
}

// unlistedApplied is an operator whose value is kept unlisted.
func (m *Machine) unlistedApplied(t *exprs.Tree, e scene) (api.Lazy, bool) {
	switch t.Text {
	case "..":
		low := m.number(t.Kids[0], e)
		high := m.number(t.Kids[1], e)
		return api.Lazy{{Kind: api.LazyInterval, Low: low, High: high}}, true
	case "SUBSET":
		return m.over(t, e, api.LazySubsets), true
	case `\cup`:
		return m.over(t, e, api.LazyUnion), true
	case `\cap`:
		return m.over(t, e, api.LazyBoth), true
	case `\`:
		return m.over(t, e, api.LazyWithout), true
	case `\X`:
		return m.over(t, e, api.LazyProduct), true
	case "Seq":
		if m.lookup(t.Text, e) != nil {
			return nil, false
		}
		if len(t.Kids) != 1 {
			fail(t, e, api.ErrArity)
		}
		return m.over(t, e, api.LazySequences), true
	}
	return nil, false
}

// over is a set made of the operands of a node.
func (m *Machine) over(t *exprs.Tree, e scene, kind int) api.Lazy {
	var operands []api.Lazy
	for _, k := range t.Kids {
		operands = append(operands, m.set(k, e))
	}
	return m.joined(t, e, api.LazyNode{Kind: kind}, operands)
}

// joined puts the nodes of operands together.
func (m *Machine) joined(t *exprs.Tree, e scene, n api.LazyNode, operands []api.Lazy) api.Lazy {
	var out api.Lazy
	for _, o := range operands {
		at := len(out)
		for _, x := range o {
			x.Args = slices.Clone(x.Args)
			for i := range x.Args {
				x.Args[i] += at
			}
			out = append(out, x)
		}
		n.Args = append(n.Args, len(out)-1)
	}
	out = append(out, n)
	if len(out) > api.MaxLazyNodes {
		fail(t, e, api.ErrLarge)
	}
	return out
}

// records is a set of records; the names of a set ascend.
func (m *Machine) records(t *exprs.Tree, e scene) api.Lazy {
	by := map[string]api.Lazy{}
	for i, k := range t.Kids {
		by[t.Names[i]] = m.set(k, e)
	}
	names := slices.SortedFunc(slices.Values(t.Names), strings.Compare)
	var operands []api.Lazy
	for _, name := range names {
		operands = append(operands, by[name])
	}
	return m.joined(t, e, api.LazyNode{Kind: api.LazyRecords, Names: names}, operands)
}

// choices goes through the members of bounds, the last name fastest.
type choices struct {
	sets    []api.Lazy
	counts  []int
	members []map[int]api.Value
}

// counted returns a set that a node is, with its count.
func (m *Machine) counted(t *exprs.Tree, e scene) (api.Lazy, int) {
	l := m.set(t, e)
	n, err := lazy.CountOf(l)
	check(t, e, err)
	return l, n
}

// member is the member of a set with a number.
func (c *choices) member(t *exprs.Tree, e scene, set, at int) api.Value {
	if v, is := c.members[set][at]; is {
		return v
	}
	v, err := lazy.MemberAt(c.sets[set], at)
	check(t, e, err)
	c.members[set][at] = v
	return v
}

// eachChoice calls see for each choice of members for the names of a node, until it returns false; the scene has the names.
func (m *Machine) eachChoice(t *exprs.Tree, e scene, see func(inner scene, chosen []api.Value) bool) {
	c := &choices{}
	none := false
	kids := t.Kids[:len(t.Kids)-1]
	for _, k := range kids {
		l, n := m.counted(k, e)
		c.sets, c.counts = append(c.sets, l), append(c.counts, n)
		c.members = append(c.members, map[int]api.Value{})
		none = none || n == 0
	}
	if none {
		return
	}
	at := make([]int, len(kids))
	for {
		inner := e
		chosen := make([]api.Value, len(kids))
		for i, k := range kids {
			chosen[i] = c.member(k, e, i, at[i])
			inner = inner.with(t.Names[i], chosen[i])
		}
		if !see(inner, chosen) || !c.next(at) {
			return
		}
	}
}

// next goes on to the next choice.
func (c *choices) next(at []int) bool {
	for i := range slices.Backward(at) {
		at[i]++
		if at[i] < c.counts[i] {
			return true
		}
		at[i] = 0
	}
	return false
}
