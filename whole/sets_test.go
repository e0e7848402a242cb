package whole

import (
	"reflect"
	"slices"
	"testing"

	"stutter/api"
	"stutter/eval"
	"stutter/exprs"
	"stutter/lazy"
	"stutter/library"
	"stutter/types"
	"stutter/value"
)

// value makes a value in normal form.
func (m *maker) value(depth int) api.Value {
	switch kind := m.Intn(7); {
	case kind == 0:
		return api.Value{Kind: api.ValueBool, N: m.Intn(2)}
	case kind == 3:
		return api.Value{Kind: api.ValueString, S: m.pick("a", "b", "")}
	case kind < 3 || depth == 0:
		return number(m.Intn(5) - 1)
	case kind == 4:
		return m.sequence(depth)
	case kind == 5:
		return api.Value{Kind: api.ValueSet, Items: m.members(depth)}
	}
	return m.bag(depth)
}

// members makes values that ascend.
func (m *maker) members(depth int) []api.Value {
	var out []api.Value
	for range m.Intn(4) {
		out = append(out, m.value(depth-1))
	}
	slices.SortFunc(out, func(a, b api.Value) int {
		n, _ := value.Compare(a, b)
		return n
	})
	return slices.CompactFunc(out, same)
}

func (m *maker) sequence(depth int) api.Value {
	var l []api.Value
	for range m.Intn(5) {
		l = append(l, m.value(depth-1))
	}
	return tuple(l...)
}

func (m *maker) bag(depth int) api.Value {
	v := api.Value{Kind: api.ValueFunc, Keys: m.members(depth)}
	for range v.Keys {
		v.Items = append(v.Items, number(1+m.Intn(3)))
	}
	return v
}

// TestTwoRoads compares the operators of the library with their definitions, and values with their expressions and texts.
func TestTwoRoads(t *testing.T) {
	m := newMaker(11)
	for _, module := range library.Modules() {
		operators, _ := library.OperatorsOf(module)
		for _, o := range operators {
			defs, err := library.DefinitionsFor(o.Name)
			if err != api.OK {
				continue
			}
			def, _ := library.DefinitionOf(o.Name)
			for range 500 {
				c := api.Context{Defs: defs}
				var args []api.Value
				var operands []api.Expr
				for i := range o.Arity {
					v := []api.Value{m.value(2), number(m.Intn(41) - 20), m.sequence(2), m.bag(2)}[m.Intn(4)]
					name := "arg" + string(rune('0'+i))
					args, operands = append(args, v), append(operands, exprs.Name(name))
					c.Values = append(c.Values, api.Binding{Name: name, Value: v})
				}
				want, err := library.Applied(o.Name, args)
				if err != api.OK {
					continue
				}
				use := exprs.Name(def.Name)
				if o.Arity > 0 {
					use = exprs.Apply(def.Name, operands...)
				}
				if got, err := eval.ValueOf(c, use); err != api.OK || !same(got.Value, want) {
					t.Fatal(o.Name, args, want, got, err)
				}
				checkBack(t, want)
			}
		}
	}
}

// checkBack makes an expression and a text of a value, and the value of these.
func checkBack(t *testing.T, v api.Value) {
	t.Helper()
	if e, err := eval.ExprOf(v); err == api.OK {
		if got, err := eval.ValueOf(api.Context{}, e); err != api.OK || !same(got.Value, v) {
			t.Fatal(v, got, err)
		}
	}
	if s, err := value.FormatValue(v); err == api.OK {
		if got, _, err := value.ParseValue(s); err != api.OK || !same(got, v) {
			t.Fatal(s, got, err)
		}
	}
}

// over returns the set of a node over others.
func over(n api.LazyNode, l ...api.Lazy) api.Lazy {
	var out api.Lazy
	for _, x := range l {
		by := len(out)
		for _, y := range x {
			y.Args = slices.Clone(y.Args)
			for i := range y.Args {
				y.Args[i] += by
			}
			out = append(out, y)
		}
		n.Args = append(n.Args, len(out)-1)
	}
	return append(out, n)
}

// lazySet makes a set, and says whether it is not unbounded.
func (m *maker) lazySet(depth int) (api.Lazy, bool) {
	if depth == 0 {
		switch kind := m.Intn(8); kind {
		case api.LazyNaturals, api.LazyIntegers, api.LazyStrings:
			return api.Lazy{{Kind: kind}}, false
		case api.LazyListed:
			return api.Lazy{{Kind: api.LazyListed, Members: m.members(2)}}, true
		}
		low := m.Intn(4) - 1
		return api.Lazy{{Kind: api.LazyInterval, Low: low, High: low + m.Intn(4) - 1}}, true
	}
	a, first := m.lazySet(depth - 1)
	b, second := m.lazySet(depth - 1)
	switch kind := api.LazySequences + m.Intn(api.LazyKinds-api.LazySequences); kind {
	case api.LazySequences:
		return over(api.LazyNode{Kind: kind}, a), false
	case api.LazySubsets:
		return over(api.LazyNode{Kind: kind}, a), first
	case api.LazyRecords:
		return over(api.LazyNode{Kind: kind, Names: []string{"a", "b"}}, a, b), first && second
	case api.LazyBoth:
		return over(api.LazyNode{Kind: kind}, a, b), first || second
	case api.LazyWithout:
		return over(api.LazyNode{Kind: kind}, a, b), first
	default:
		return over(api.LazyNode{Kind: kind}, a, b), first && second
	}
}

// TestLazySets compares sets with what they are when they are listed.
func TestLazySets(t *testing.T) {
	m := newMaker(9)
	for range 2500 {
		l, bounded := m.lazySet(m.Intn(3))
		n, err := lazy.CountOf(l)
		if (err == api.ErrUnbounded) == bounded {
			t.Fatal(l, n, err)
		}
		all, err := lazy.ListedOf(l)
		if err != api.OK {
			continue
		}
		if len(all.Items) != n || value.CheckValue(all) != api.OK {
			t.Fatal(l, n, all)
		}
		for i, x := range all.Items {
			y, _ := lazy.MemberAt(l, i)
			at, _ := lazy.NumberOf(l, x)
			is, _ := lazy.Contains(l, x)
			if !same(x, y) || at != i || !is {
				t.Fatal(l, i, x, y, at, is)
			}
		}
		for range 5 {
			x := m.value(2)
			is, _ := lazy.Contains(l, x)
			if is != slices.ContainsFunc(all.Items, func(y api.Value) bool { return same(x, y) }) {
				t.Fatal(l, x, is)
			}
		}
		checkWithin(t, l, all.Items, m)
	}
}

// checkWithin compares IsWithin and OutsideOf with the members one by one.
func checkWithin(t *testing.T, l api.Lazy, members []api.Value, m *maker) {
	t.Helper()
	other, _ := m.lazySet(1)
	within, err := lazy.IsWithin(l, other)
	if err != api.OK {
		return
	}
	at := slices.IndexFunc(members, func(x api.Value) bool {
		is, _ := lazy.Contains(other, x)
		return !is
	})
	outside, err := lazy.OutsideOf(l, other)
	if within != (at < 0) || at < 0 && err != api.ErrNone || at >= 0 && !same(outside, members[at]) {
		t.Fatal(l, other, within, at, outside, err)
	}
}

// typed makes a type with variables.
func (m *maker) typed(depth int) api.Type {
	part := func() api.Type { return m.typed(depth - 1) }
	switch kind := m.Intn(9); {
	case kind < 2 || depth == 0:
		return api.Type{Kind: m.Intn(3)}
	case kind < 4:
		return api.Type{Kind: api.TypeVar, N: m.Intn(4)}
	case kind == 4:
		return api.Type{Kind: api.TypeSet, Parts: []api.Type{part()}}
	case kind == 5:
		return api.Type{Kind: api.TypeFunc, Parts: []api.Type{part(), part()}}
	case kind == 6:
		var l []api.Type
		for range m.Intn(3) {
			l = append(l, part())
		}
		return api.Type{Kind: api.TypeTuple, Parts: l}
	}
	return api.Type{Kind: api.TypeRecord, Names: []string{"a", "b"}, Parts: []api.Type{part(), part()}}
}

// put replaces variables.
func put(t api.Type, by map[int]api.Type) api.Type {
	if x, is := by[t.N]; is && t.Kind == api.TypeVar {
		return x
	}
	out := t
	out.Parts = nil
	for _, p := range t.Parts {
		out.Parts = append(out.Parts, put(p, by))
	}
	return out
}

// TestUnified compares unifiers with what they make of both types; types without one have no small common instance.
func TestUnified(t *testing.T) {
	m := newMaker(28)
	small := []api.Type{{Kind: api.TypeBool}, {Kind: api.TypeInt}, {Kind: api.TypeSet, Parts: []api.Type{{Kind: api.TypeBool}}}}
	for range 5000 {
		a, b := m.typed(3), m.typed(3)
		u, l, err := types.Unified(a, b)
		if err == api.ErrType {
			for i := range 81 {
				by := map[int]api.Type{0: small[i%3], 1: small[i/3%3], 2: small[i/9%3], 3: small[i/27]}
				if reflect.DeepEqual(put(a, by), put(b, by)) {
					t.Fatal(a, b, by)
				}
			}
			continue
		}
		by := map[int]api.Type{}
		for _, x := range l {
			by[int(x.Name[1]-'0')] = x.Type
		}
		if err != api.OK || !reflect.DeepEqual(put(a, by), put(b, by)) || !reflect.DeepEqual(put(a, by), put(u, nil)) {
			t.Fatal(a, b, u, l, err)
		}
		for _, x := range []api.Type{a, b} {
			if is, err := types.IsInstance(u, x); !is || err != api.OK {
				t.Fatal(a, b, u)
			}
		}
	}
}
