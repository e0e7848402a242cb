package whole

import (
	"reflect"
	"slices"
	"strings"
	"testing"

	"stutter/api"
	"stutter/eval"
	"stutter/exprs"
	"stutter/instance"
	"stutter/types"
)

// entry is what a name stands for: a number, an argument, or a definition.
type entry struct {
	name  string
	value any
}

type argument struct {
	body *exprs.Tree
	env  []entry
	at   int
}

type definition struct {
	argument
	params []string
}

// direct evaluates what a maker makes, as chapter 10 says, and counts the steps; it panics with a fault.
type direct struct {
	globals []entry
	steps   int
}

type fault struct {
	err api.Errno
	at  int
}

// visit is one node that is evaluated; at is the place of the use of a definition, or None.
type visit struct {
	*direct
	*exprs.Tree
	env []entry
	at  int
}

func (d *direct) value(t *exprs.Tree, env []entry, at int) any {
	d.steps++
	return visit{d, t, env, at}.value()
}

func (v visit) placeOf(t *exprs.Tree) int {
	if v.at != api.None {
		return v.at
	}
	return t.Index
}

func (v visit) fail(err api.Errno, t *exprs.Tree) { panic(fault{err, v.placeOf(t)}) }

func (v visit) kid(i int) any { return v.direct.value(v.Kids[i], v.env, v.at) }

func (v visit) with(name string, value any) visit {
	v.env = append(slices.Clip(v.env), entry{name, value})
	return v
}

func (v visit) number(i int) int {
	n, is := v.kid(i).(int)
	if !is {
		v.fail(api.ErrType, v.Kids[i])
	}
	return n
}

func (v visit) truth(i int) bool {
	b, is := v.kid(i).(bool)
	if !is {
		v.fail(api.ErrType, v.Kids[i])
	}
	return b
}

func (v visit) set(i int) []int {
	l, is := v.kid(i).([]int)
	if !is {
		v.fail(api.ErrType, v.Kids[i])
	}
	return l
}

func listed(l []int) []int {
	slices.Sort(l)
	return slices.Compact(l)
}

func (v visit) value() any {
	switch v.Kind {
	case api.ExprNumber:
		return v.N
	case api.ExprName:
		return v.named()
	case api.ExprIf, api.ExprCase:
		if v.truth(0) {
			return v.kid(1)
		}
		return v.kid(2)
	case api.ExprSet:
		out := []int{}
		for i := range v.Kids {
			out = append(out, v.number(i))
		}
		return listed(out)
	case api.ExprLet:
		return v.with(v.Names[0], definition{argument{v.Kids[0], v.env, v.at}, v.Names[1:]}).kid(1)
	case api.ExprCall:
		return v.called()
	case api.ExprApply:
		return v.applied()
	}
	return v.bounded()
}

func (v visit) named() any {
	for _, e := range slices.Backward(v.env) {
		if e.name != v.Text {
			continue
		}
		if a, is := e.value.(argument); is {
			return v.direct.value(a.body, a.env, a.at)
		}
		return e.value
	}
	return v.Text == "TRUE"
}

func (v visit) bounded() any {
	out := []int{}
	for _, n := range v.set(0) {
		inner := v.with(v.Names[0], n)
		if v.Kind == api.ExprMap {
			out = append(out, inner.number(1))
			continue
		}
		switch b := inner.truth(1); {
		case v.Kind == api.ExprAll && !b:
			return false
		case v.Kind == api.ExprSome && b:
			return true
		case v.Kind == api.ExprChoose && b:
			return n
		case b:
			out = append(out, n)
		}
	}
	switch v.Kind {
	case api.ExprChoose:
		v.fail(api.ErrNone, v.Tree)
	case api.ExprAll, api.ExprSome:
		return v.Kind == api.ExprAll
	}
	return listed(out)
}

// called evaluates a tuple, or a function, and the item at a key.
func (v visit) called() any {
	v.steps++
	f := visit{v.direct, v.Kids[0], v.env, v.at}
	items := map[int]any{}
	if f.Kind == api.ExprTuple {
		for i := range f.Kids {
			items[i+1] = f.kid(i)
		}
	} else {
		for _, n := range f.set(0) {
			items[n] = f.with(f.Names[0], n).kid(1)
		}
	}
	item, is := items[v.kid(1).(int)]
	if !is {
		v.fail(api.ErrSilly, v.Tree)
	}
	return item
}

func (v visit) applied() any {
	switch v.Text {
	case "+", "-", "*", "\\div", "%":
		a := v.number(0)
		return v.computed(a, v.number(1))
	case "<", "<=", ">", ">=":
		a := v.number(0)
		b := v.number(1)
		return map[string]bool{"<": a < b, "<=": a <= b, ">": a > b, ">=": a >= b}[v.Text]
	case "=", "#":
		a := v.kid(0)
		return reflect.DeepEqual(a, v.kid(1)) == (v.Text == "=")
	case "\\in", "\\notin":
		a := v.number(0)
		return slices.Contains(v.set(1), a) == (v.Text == "\\in")
	case "~":
		return !v.truth(0)
	case "/\\":
		return v.truth(0) && v.truth(1)
	case "\\/":
		return v.truth(0) || v.truth(1)
	case "=>":
		return !v.truth(0) || v.truth(1)
	case "<=>":
		a := v.truth(0)
		return a == v.truth(1)
	case "UNION":
		v.steps++
		sets := visit{v.direct, v.Kids[0], v.env, v.at}
		out := []int{}
		for i := range sets.Kids {
			out = append(out, sets.set(i)...)
		}
		return listed(out)
	case "..":
		out := []int{}
		a := v.number(0)
		for n, b := a, v.number(1); n <= b; n++ {
			out = append(out, n)
		}
		return out
	case "\\subseteq", "\\cup", "\\cap", "\\":
		a := v.set(0)
		return v.combined(a, v.set(1))
	}
	return v.defined()
}

func (v visit) computed(a, b int) int {
	if v.Text == "\\div" || v.Text == "%" {
		if b <= 0 {
			v.fail(api.ErrZero, v.Tree)
		}
		q := a / b
		if a%b < 0 {
			q--
		}
		if v.Text == "%" {
			return a - b*q
		}
		return q
	}
	n := map[string]int{"+": a + b, "-": a - b, "*": a * b}[v.Text]
	if n > api.MaxNumber || n < -api.MaxNumber {
		v.fail(api.ErrOverflow, v.Tree)
	}
	return n
}

func (v visit) combined(a, b []int) any {
	out := []int{}
	for _, n := range a {
		if v.Text == "\\cup" || slices.Contains(b, n) == (v.Text == "\\cap") {
			out = append(out, n)
		}
	}
	switch v.Text {
	case "\\subseteq":
		return len(out) == 0
	case "\\cup":
		return listed(append(out, b...))
	}
	return out
}

// defined evaluates the body of F, or of a LET.
func (v visit) defined() any {
	for _, e := range slices.Backward(v.env) {
		d, is := e.value.(definition)
		if !is || e.name != v.Text {
			continue
		}
		at := d.at
		if d.env == nil { // a definition of the context is at its use
			d.env, at = v.globals, v.placeOf(v.Tree)
		}
		for i, p := range d.params {
			d.env = append(slices.Clip(d.env), entry{p, argument{v.Kids[i], v.env, v.at}})
		}
		return v.direct.value(d.body, d.env, at)
	}
	return nil
}

// asValue makes a value of what direct evaluates.
func asValue(x any) api.Value {
	out := api.Value{Kind: api.ValueBool}
	switch x := x.(type) {
	case int:
		return number(x)
	case bool:
		if x {
			out.N = 1
		}
	case []int:
		out.Kind = api.ValueSet
		for _, n := range x {
			out.Items = append(out.Items, number(n))
		}
	}
	return out
}

func directly(c api.Context, e api.Expr) (out any, steps int, f fault) {
	d := &direct{}
	for _, b := range c.Values {
		d.globals = append(d.globals, entry{b.Name, b.Value.N})
	}
	for _, def := range c.Defs {
		d.globals = append(d.globals, entry{def.Name, definition{argument{exprs.Grow(def.Body), nil, api.None}, def.Params}})
	}
	defer func() {
		steps = d.steps
		if r := recover(); r != nil {
			f = r.(fault)
		}
	}()
	return d.value(exprs.Grow(e), d.globals, api.None), 0, f
}

// TestDirect compares values, steps, errors and places of chapter 10 with a direct evaluation, and types of chapter 28 with the values.
func TestDirect(t *testing.T) {
	m := newMaker(10)
	for range 4000 {
		e, c := m.any(m.integer, m.boolean, m.set), m.context(t)
		got, err := eval.ValueOf(c, e)
		if err == api.ErrLarge || err == api.ErrFuel {
			continue
		}
		want, steps, f := directly(c, e)
		if err != f.err || err != api.OK && got.At != f.at {
			t.Fatal(text(e), err, got.At, f)
		}
		if err != api.OK {
			continue
		}
		if !same(got.Value, asValue(want)) || got.Steps != steps {
			t.Fatal(text(e), got, want, steps)
		}
		var names []api.Typing
		for _, b := range c.Values {
			names = append(names, api.Typing{Name: b.Name, Type: api.Type{Kind: api.TypeInt}})
		}
		typed, _, err := types.TypeOf(e, names, c.Defs)
		if err != api.OK && !strings.Contains(text(e), ">>[") {
			t.Fatal(text(e), err)
		}
		if is, _ := types.HasType(got.Value, typed); err == api.OK && !is {
			t.Fatal(text(e), typed)
		}
	}
}

// TestSubstituted compares the value of an expression that is substituted, or expanded, with that in a changed context.
func TestSubstituted(t *testing.T) {
	m := newMaker(7)
	for range 3000 {
		e, c := m.any(m.integer, m.boolean, m.set), m.context(t)
		by := expr(t, m.pick("u", "v + w", "x + 1", "3", "{u}", "(CHOOSE v \\in {1, 2} : v > w)"))
		put, err := eval.ValueOf(c, by)
		if err != api.OK {
			continue
		}
		changed := api.Context{Values: slices.Clone(c.Values), Defs: c.Defs}
		changed.Values[0].Value = put.Value
		want, wrong := eval.ValueOf(changed, e)
		if s, err := instance.Substituted(e, api.Substitution{Names: []string{"x"}, With: []api.Expr{by}}); err == api.OK {
			if got, err := eval.ValueOf(c, s); err != wrong || !same(got.Value, want.Value) {
				t.Fatal(text(e), text(s), err, wrong)
			}
		}
		if s, err := instance.ExpandedBy(c.Defs, e); err == api.OK {
			if got, err := eval.ValueOf(changed, s); err != wrong || !same(got.Value, want.Value) {
				t.Fatal(text(e), text(s), err, wrong)
			}
		}
	}
}
