package translate

import (
	"math/rand"
	"slices"
	"strconv"
	"testing"

	"stutter/action"
	"stutter/api"
	"stutter/process"
	"stutter/values"
)

// shapes are all lists of so many statements, those within others counted.
func shapes(n int) [][]api.PlusStmt {
	if n == 0 {
		return [][]api.PlusStmt{nil}
	}
	var out [][]api.PlusStmt
	for first := 1; first <= n; first++ {
		for _, rest := range shapes(n - first) {
			for _, x := range statementsOf(first) {
				out = append(out, append([]api.PlusStmt{x}, rest...))
			}
		}
	}
	return out
}

// statementsOf are all statements that are so many, those within counted.
func statementsOf(n int) []api.PlusStmt {
	if n == 1 {
		return []api.PlusStmt{{Kind: api.PlusAssign}, {Kind: api.PlusAwait}}
	}
	var out []api.PlusStmt
	for _, inner := range shapes(n - 1) {
		out = append(out, api.PlusStmt{Kind: api.PlusWith, In: true, Blocks: [][]api.PlusStmt{inner}}, api.PlusStmt{Kind: api.PlusWhile, Blocks: [][]api.PlusStmt{inner}})
	}
	for first := 1; first < n; first++ {
		for _, a := range shapes(first) {
			for _, b := range shapes(n - 1 - first) {
				out = append(out, api.PlusStmt{Kind: api.PlusIf, Blocks: [][]api.PlusStmt{a, b}})
			}
		}
	}
	return out
}

// filler gives statements labels, names and expressions.
type filler struct {
	all     bool // all statements that may have labels have one
	one     bool // both targets are one variable
	count   int
	names   []string
	large   func(names []string) api.Expr
	vars    []string
	assigns int
}

func (f *filler) fill(l []api.PlusStmt, within bool) []api.PlusStmt {
	out := slices.Clone(l)
	for i := range out {
		x := &out[i]
		f.count++
		if !within && (f.all || f.count == 1 || x.Kind == api.PlusWhile) {
			x.Label = "L" + strconv.Itoa(f.count)
		}
		names := slices.Clone(f.names)
		if x.Kind == api.PlusAssign {
			f.assigns++
			for j := range 2 {
				v := f.vars[j]
				if f.one {
					v = f.vars[f.assigns%2]
				}
				x.Targets = append(x.Targets, api.PlusTarget{Name: v, Index: []api.Expr{f.large(names)}})
				x.Exprs = append(x.Exprs, f.large(names))
			}
		} else {
			x.Exprs = []api.Expr{f.large(names)}
		}
		if x.Kind == api.PlusWith {
			x.Name = "w" + strconv.Itoa(f.count)
			f.names = append(f.names, x.Name)
		}
		for j, b := range x.Blocks {
			x.Blocks[j] = f.fill(b, within || x.Kind == api.PlusWith)
		}
		f.names = names
	}
	return out
}

// cloned are statements that share no blocks.
func cloned(l []api.PlusStmt) []api.PlusStmt {
	out := slices.Clone(l)
	for i := range out {
		out[i].Blocks = slices.Clone(out[i].Blocks)
		for j, b := range out[i].Blocks {
			out[i].Blocks[j] = cloned(b)
		}
	}
	return out
}

// TestPlainShapes has all shapes of four statements, with as large expressions as a plain program may have: of each there is a specification.
func TestPlainShapes(t *testing.T) {
	large := func(names []string) api.Expr {
		var l []api.Expr
		for i := range 4 {
			l = append(l, name(names[len(names)-1-i%min(4, len(names))]))
		}
		return apply("F", l...)
	}
	f := api.Def{Name: "F", Params: []string{"a", "b", "d", "e"}, Arities: make([]int, 4), Body: apply("+", apply("*", name("a"), name("b")), name("d"))}
	defs := []api.Def{f}
	for i := range 3 {
		g := f
		g.Name = "G" + strconv.Itoa(i)
		defs = append(defs, g)
	}
	one := values.Int(1)
	constants := []api.Binding{{Name: "C", Value: values.Set(one, values.Int(2), values.Int(3))}, {Name: "k", Value: one}}
	tried := 0
	for n := 1; n <= 4; n++ {
		for i, shape := range shapes(n) {
			if n == 4 && i%8 != 0 {
				continue // there are very many
			}
			for _, c := range []struct{ all, one, in, split, body bool }{{in: true}, {all: true, in: true}, {one: true, in: true}, {all: true, one: true}, {all: true, in: true, split: true}, {body: true}, {all: true, body: true}} {
				p := api.PlusProcess{Name: "P", In: c.in, Value: name("C"), Fair: api.PlusStrong}
				for _, v := range []string{"x", "y"} {
					p.Vars = append(p.Vars, api.PlusVar{Name: v, Begins: api.PlusIn, Value: apply("..", name("self"), name("k"))})
				}
				p.Vars[1].Value = large([]string{"self", "x", "k"})
				fill := filler{all: c.all, one: c.one, names: []string{"self", "y", "x"}, vars: []string{"x", "y"}, large: large}
				a := api.Algorithm{Name: "A", Defs: defs, Processes: []api.PlusProcess{p}}
				a.Processes[0].Body = fill.fill(cloned(shape), false)
				if c.body {
					vars := []api.PlusVar{{Name: "x", Begins: api.PlusIn, Value: apply("..", name("k"), name("k"))}, {Name: "y", Begins: api.PlusEqual, Value: large([]string{"x", "k"})}}
					fill = filler{all: c.all, names: []string{"k", "y", "x"}, vars: []string{"x", "y"}, large: large}
					a = api.Algorithm{Name: "A", Fair: api.PlusWeak, Defs: defs, Vars: vars, Body: fill.fill(cloned(shape), false)}
				}
				if c.split && len(shape) > 1 {
					a.Processes = append(a.Processes, api.PlusProcess{Name: "Q", Value: apply("-", number(0), name("k")), Body: []api.PlusStmt{{Kind: api.PlusSkip, Label: "M"}}})
					a.Processes[0].Body = a.Processes[0].Body[:1]
				}
				program := api.PlusProgram{Algorithm: a, Constants: constants}
				if process.CheckProgram(program) != api.OK {
					continue
				}
				tried++
				spec, e1 := SpecOf(program)
				_, e2 := ActionsOf(program)
				_, e3 := FairnessOf(program)
				_, e4 := TerminationOf(program)
				if _, err := action.CheckSpec(spec); e1 != api.OK || e2 != api.OK || e3 != api.OK || e4 != api.OK || err != api.OK {
					t.Fatalf("%+v: %d %d %d %d %d", a.Processes, e1, e2, e3, e4, err)
				}
			}
		}
	}
	if tried < 300 {
		t.Error(tried)
	}
}

// chance makes expressions and statements that are often right.
type chance struct {
	*rand.Rand
	names []string
}

func (c *chance) expr(size int) api.Expr {
	switch size {
	case 1:
		if c.Intn(3) == 0 {
			return number(c.Intn(3))
		}
		return name(c.names[c.Intn(len(c.names))])
	case 2:
		return of([]int{api.ExprSet, api.ExprTuple}[c.Intn(2)], c.expr(1))
	}
	first := 1 + c.Intn(size-2)
	a, b := c.expr(first), c.expr(size-1-first)
	return []api.Expr{of(api.ExprTuple, a, b), apply("-", a, b), apply("+", a, b), apply("+", a, b), apply("*", a, b)}[c.Intn(5)]
}

func (c *chance) fill(l []api.PlusStmt, vars []string, within bool) []api.PlusStmt {
	for i := range l {
		x := &l[i]
		names := c.names
		test := apply([]string{"=", "#", "<"}[c.Intn(3)], c.expr(1), c.expr(3))
		switch x.Kind {
		case api.PlusAssign:
			for _, v := range vars[c.Intn(2):] {
				target := api.PlusTarget{Name: v}
				if c.Intn(4) == 0 {
					target.Index = []api.Expr{c.expr(1)}
				}
				x.Targets, x.Exprs = append(x.Targets, target), append(x.Exprs, c.expr(1+c.Intn(5)))
			}
		case api.PlusWith:
			x.Name = "w" + strconv.Itoa(len(names))
			x.Exprs = []api.Expr{of(api.ExprSet, c.expr(1), c.expr(3))}
			c.names = append(slices.Clone(names), x.Name)
		default:
			x.Exprs = []api.Expr{test}
		}
		if !within && c.Intn(3) == 0 || x.Kind == api.PlusWhile {
			x.Label = "L" + strconv.Itoa(c.Intn(1000))
		}
		for j, b := range x.Blocks {
			x.Blocks[j] = c.fill(b, vars, within || x.Kind == api.PlusWith)
		}
		c.names = names
	}
	return l
}

// TestPlainByChance compares specifications of plain programs with the programs, also where they have definitions for what comes behind a statement.
func TestPlainByChance(t *testing.T) {
	c := &chance{Rand: rand.New(rand.NewSource(27))}
	all := shapes(4)
	m1 := values.Model("m1")
	same, further := 0, 0
	for range 1500 {
		c.names = []string{"self", "k"}
		p := api.PlusProcess{Name: "P", In: c.Intn(3) > 0, Value: name("C")}
		for _, v := range []string{"x", "y"} {
			begins := api.PlusVar{Name: v, Begins: api.PlusEqual, Value: c.expr(1 + c.Intn(5))}
			if c.Intn(2) == 0 {
				begins = api.PlusVar{Name: v, Begins: api.PlusIn, Value: of(api.ExprSet, c.expr(1), c.expr(1+c.Intn(3)))}
			}
			p.Vars = append(p.Vars, begins)
			c.names = append(c.names, v)
		}
		p.Body = c.fill(cloned(all[c.Intn(len(all))]), []string{"x", "y"}, false)
		p.Body[0].Label = "L"
		members := []api.Value{values.Int(1), values.Int(2)}
		if c.Intn(4) == 0 {
			members = []api.Value{m1, values.Set(m1)}
		}
		program := api.PlusProgram{Algorithm: api.Algorithm{Name: "A", Processes: []api.PlusProcess{p}}, Constants: []api.Binding{{Name: "C", Value: values.Set(members...)}, {Name: "k", Value: values.Int(1)}}}
		found, err := process.FirstStates(program)
		if err != api.OK {
			continue
		}
		spec, err := SpecOf(program)
		first, at, e2 := action.FirstStates(spec)
		if err != api.OK || e2 != api.OK || !slices.EqualFunc(found, first, values.SameState) {
			t.Fatalf("%+v: %d; %v and %v, %d at %d", p, err, found, first, e2, at)
		}
		x, _ := systemOf(program)
		cut, err := x.written(8)
		if err != api.OK {
			t.Fatalf("%+v: %d", p, err)
		}
		further += len(cut.Defs) - len(spec.Defs)
		for i := 0; i < len(found) && i < 10; i++ {
			steps, err := process.StepsFrom(program, found[i])
			if err != api.OK {
				continue
			}
			_, e1 := CheckStates(program, spec, found[i:i+1])
			_, e2 := CheckStates(program, cut, found[i:i+1])
			if e1 != api.OK || e2 != api.OK {
				t.Fatalf("%+v at %v: %d %d", p, found[i], e1, e2)
			}
			same++
			for _, step := range steps {
				if !slices.ContainsFunc(found, func(x api.State) bool { return values.SameState(x, step.To) }) {
					found = append(found, step.To)
				}
			}
		}
	}
	if same < 500 || further < 500 {
		t.Error(same, further)
	}
}
