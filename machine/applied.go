package machine

import (
	"slices"

	"stutter/api"
	"stutter/exprs"
	"stutter/lazy"
	"stutter/values"
)

// applied evaluates an operator of chapter 2 that is not kept unlisted.
func (m *Machine) applied(t *exprs.Tree, e scene) api.Value {
	switch t.Text {
	case `/\`, `\/`, "=>", "<=>", "~":
		return values.Bool(m.logical(t, e))
	case "=", "#", `\in`, `\notin`, `\subseteq`:
		return values.Bool(m.related(t, e))
	case "+", "-", "*", "-.", `\div`, "%", "^":
		return m.computed(t, e)
	case "<", "<=", ">", ">=":
		a := m.number(t.Kids[0], e)
		b := m.number(t.Kids[1], e)
		return values.Bool(compared(t.Text, a, b))
	case "DOMAIN":
		return fit(t, e, api.Value{Kind: api.ValueSet, Items: m.function(t.Kids[0], e).Keys})
	case "UNION":
		return m.union(t, e)
	case `\o`:
		return m.concatenated(t, e)
	case "'", "UNCHANGED", `\cdot`, "ENABLED":
		return m.overStates(t, e)
	case "[]", "<>", "~>":
		fail(t, e, api.ErrLevel)
	}
	fail(t, e, api.ErrMissing)
	return api.Value{}
}

func (m *Machine) logical(t *exprs.Tree, e scene) bool {
	a := m.truth(t.Kids[0], e)
	switch {
	case t.Text == "~":
		return !a
	case t.Text == `/\` && !a:
		return false
	case t.Text == `\/` && a || t.Text == "=>" && !a:
		return true
	}
	b := m.truth(t.Kids[1], e)
	return b == (t.Text != "<=>" || a)
}

func (m *Machine) related(t *exprs.Tree, e scene) bool {
	if t.Text == `\subseteq` {
		a := m.set(t.Kids[0], e)
		b := m.set(t.Kids[1], e)
		is, err := lazy.IsWithin(a, b)
		check(t, e, err)
		return is
	}
	a := m.value(t.Kids[0], e)
	if t.Text == `\in` || t.Text == `\notin` {
		is, err := lazy.Contains(m.set(t.Kids[1], e), a)
		check(t, e, err)
		return is == (t.Text == `\in`)
	}
	b := m.value(t.Kids[1], e)
	if a.Kind != b.Kind && a.Kind != api.ValueModel && b.Kind != api.ValueModel {
		fail(t, e, api.ErrSilly)
	}
	return values.Same(a, b) == (t.Text == "=")
}

func compared(sign string, a, b int) bool {
	switch sign {
	case "<":
		return a < b
	case "<=":
		return a <= b
	case ">":
		return a > b
	}
	return a >= b
}

// computed is the result of an operation on numbers.
func (m *Machine) computed(t *exprs.Tree, e scene) api.Value {
	a, b := m.number(t.Kids[0], e), 0
	if len(t.Kids) > 1 {
		b = m.number(t.Kids[1], e)
	}
	out, err := Compute(t.Text, a, b)
	check(t, e, err)
	return values.Int(out)
}

// Compute is an operation on numbers: ErrZero or ErrRange of operands, ErrOverflow of the result.
func Compute(sign string, a, b int) (int, api.Errno) {
	out := 0
	switch sign {
	case "+":
		out = a + b
	case "-":
		out = a - b
	case "*":
		out = a * b
	case "-.":
		out = -a
	case `\div`, "%":
		if b <= 0 {
			return 0, api.ErrZero
		}
		rest := (a%b + b) % b
		out = rest
		if sign != "%" {
			out = (a - rest) / b
		}
	case "^":
		if b < 0 || a == 0 && b == 0 {
			return 0, api.ErrRange
		}
		out = 1
		for i := 0; i < b && max(out, -out) <= api.MaxNumber; i++ {
			out *= a
		}
	}
	if max(out, -out) > api.MaxNumber {
		return 0, api.ErrOverflow
	}
	return out, api.OK
}

func (m *Machine) union(t *exprs.Tree, e scene) api.Value {
	v := m.value(t.Kids[0], e)
	isSet := func(x api.Value) bool { return x.Kind == api.ValueSet }
	if !isSet(v) || slices.ContainsFunc(v.Items, func(x api.Value) bool { return !isSet(x) }) {
		fail(t.Kids[0], e, api.ErrType)
	}
	var all []api.Value
	for _, x := range v.Items {
		all = append(all, x.Items...)
	}
	return fit(t, e, values.Set(all...))
}

func (m *Machine) concatenated(t *exprs.Tree, e scene) api.Value {
	l := m.each(t.Kids, e)
	for i, v := range l {
		if !values.IsTuple(v) {
			fail(t.Kids[i], e, api.ErrType)
		}
	}
	return fit(t, e, values.Tuple(slices.Concat(l[0].Items, l[1].Items)...))
}
