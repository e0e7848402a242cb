package machine

import (
	"slices"

	"stutter/api"
	"stutter/exprs"
	"stutter/lazy"
	"stutter/values"
)

// valueOf is the value of a node whose step is counted.
func (m *Machine) valueOf(t *exprs.Tree, e scene) api.Value {
	if l, is := m.unlisted(t, e); is {
		v, err := lazy.ListedOf(l)
		check(t, e, err)
		return v
	}
	if v, is := follow(m, t, e, m.value); is {
		return v
	}
	switch t.Kind {
	case api.ExprNumber:
		return values.Int(t.N)
	case api.ExprString:
		return values.String(t.Text)
	case api.ExprName:
		return m.named(t, e)
	case api.ExprOld:
		return m.lookup("@", e).valueAt(m, t, e)
	case api.ExprApply:
		return m.applied(t, e)
	case api.ExprTuple:
		return fit(t, e, values.Tuple(m.each(t.Kids, e)...))
	case api.ExprSet:
		return fit(t, e, values.Set(m.each(t.Kids, e)...))
	case api.ExprRecord:
		return m.record(t, e)
	case api.ExprField:
		return m.called(t, e, m.function(t.Kids[0], e), values.String(t.Text))
	case api.ExprCall:
		f := m.function(t.Kids[0], e)
		return m.called(t, e, f, m.key(t, e))
	case api.ExprExcept:
		return m.except(t, e)
	case api.ExprAny, api.ExprExists:
		fail(t, e, api.ErrUnbounded)
	case api.ExprLambda:
		fail(t, e, api.ErrArity)
	case api.ExprBox, api.ExprAngle:
		return m.subscripted(t, e)
	case api.ExprWeak, api.ExprStrong:
		fail(t, e, api.ErrLevel)
	}
	return m.bounded(t, e)
}

// each evaluates nodes as values.
func (m *Machine) each(l []*exprs.Tree, e scene) []api.Value {
	var out []api.Value
	for _, k := range l {
		out = append(out, m.value(k, e))
	}
	return out
}

// named is the value of a name that stands for no expression.
func (m *Machine) named(t *exprs.Tree, e scene) api.Value {
	if x := m.lookup(t.Text, e); x != nil {
		return x.valueAt(m, t, e)
	}
	switch t.Text {
	case "TRUE", "FALSE":
		return values.Bool(t.Text == "TRUE")
	case "Seq":
		fail(t, e, api.ErrArity)
	}
	fail(t, e, api.ErrMissing)
	return api.Value{}
}

// record is a record; its keys ascend.
func (m *Machine) record(t *exprs.Tree, e scene) api.Value {
	var keys []api.Value
	for _, name := range t.Names {
		keys = append(keys, values.String(name))
	}
	f, _ := values.Func(keys, m.each(t.Kids, e))
	return fit(t, e, f)
}

// key is the key of a call: one operand, or the tuple of several.
func (m *Machine) key(t *exprs.Tree, e scene) api.Value {
	l := m.each(t.Kids[1:], e)
	if len(l) == 1 {
		return l[0]
	}
	return fit(t, e, values.Tuple(l...))
}

// called is the item of a function at a key.
func (m *Machine) called(t *exprs.Tree, e scene, f, key api.Value) api.Value {
	at, is := values.Find(f.Keys, key)
	if !is {
		fail(t, e, api.ErrSilly)
	}
	return f.Items[at]
}

func (m *Machine) except(t *exprs.Tree, e scene) api.Value {
	f := m.function(t.Kids[0], e)
	key := m.value(t.Kids[1], e)
	at, is := values.Find(f.Keys, key)
	if !is {
		return f
	}
	f.Items = slices.Clone(f.Items)
	f.Items[at] = m.value(t.Kids[2], e.with("@", f.Items[at]))
	return fit(t, e, f)
}

// bounded evaluates a node with bounds.
func (m *Machine) bounded(t *exprs.Tree, e scene) api.Value {
	body := t.Kids[len(t.Kids)-1]
	switch t.Kind {
	case api.ExprAll, api.ExprSome:
		all := t.Kind == api.ExprAll
		out := all
		m.eachChoice(t, e, func(inner scene, _ []api.Value) bool {
			out = m.truth(body, inner)
			return out == all
		})
		return values.Bool(out)
	case api.ExprChoose:
		return m.chosen(t, e)
	case api.ExprFunc:
		return m.functionOver(t, e)
	}
	var members []api.Value
	m.eachChoice(t, e, func(inner scene, chosen []api.Value) bool {
		v := chosen[0]
		if t.Kind == api.ExprMap {
			v = m.value(body, inner)
		} else if !m.truth(body, inner) {
			return true
		}
		if at, is := values.Find(members, v); !is {
			members = slices.Insert(members, at, v)
		}
		if len(members) > api.MaxMembers {
			fail(t, e, api.ErrLarge)
		}
		return true
	})
	return fit(t, e, api.Value{Kind: api.ValueSet, Items: members})
}

// chosen is the least member that CHOOSE takes.
func (m *Machine) chosen(t *exprs.Tree, e scene) api.Value {
	var out *api.Value
	m.eachChoice(t, e, func(inner scene, chosen []api.Value) bool {
		if m.truth(t.Kids[1], inner) {
			out = &chosen[0]
		}
		return out == nil
	})
	if out == nil {
		fail(t, e, api.ErrNone)
	}
	return *out
}

// functionOver is a function with a key for each choice.
func (m *Machine) functionOver(t *exprs.Tree, e scene) api.Value {
	f := api.Value{Kind: api.ValueFunc}
	m.eachChoice(t, e, func(inner scene, chosen []api.Value) bool {
		if len(f.Keys) == api.MaxMembers {
			fail(t, e, api.ErrLarge)
		}
		key := chosen[0]
		if len(chosen) > 1 {
			key = values.Tuple(chosen...)
		}
		item := m.value(t.Kids[len(t.Kids)-1], inner)
		f.Keys, f.Items = append(f.Keys, key), append(f.Items, item)
		return true
	})
	return fit(t, e, f)
}
