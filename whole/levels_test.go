package whole

import (
	"maps"
	"slices"
	"strings"
	"testing"

	"stutter/api"
	"stutter/exprs"
	"stutter/instance"
	"stutter/level"
)

// wrong is above all levels.
const wrong = 99

// ranked is the level of a name, or its definition.
type ranked struct {
	level  int
	params []string
	body   *exprs.Tree
	env    ranks
}

type ranks map[string]ranked

func (r ranks) with(x ranked, names ...string) ranks {
	out := maps.Clone(r)
	for _, n := range names {
		out[n] = x
	}
	return out
}

// of returns the level of a node, as chapter 6 says, or wrong.
func (r ranks) of(t *exprs.Tree) int {
	var l []int
	for i, k := range t.Kids {
		if t.Kind != api.ExprLet {
			l = append(l, r.with(ranked{}, t.Binds(i)...).of(k))
		}
	}
	if slices.Contains(l, wrong) && !r.isUse(t) {
		return wrong
	}
	most := slices.Max(append(l, 0))
	permit := func(kept bool, level int) int {
		if kept {
			return level
		}
		return wrong
	}
	switch t.Kind {
	case api.ExprName:
		return r.use(t, nil)
	case api.ExprBox, api.ExprAngle:
		return permit(l[0] <= 2 && l[1] <= 1, 2)
	case api.ExprWeak, api.ExprStrong:
		return permit(l[0] <= 2 && l[1] <= 1, 3)
	case api.ExprAll, api.ExprSome:
		last := len(l) - 1
		others := slices.Max(l[:last])
		return permit(others < 3 && (l[last] < 3 || others == 0), most)
	case api.ExprLambda:
		return most
	case api.ExprLet:
		d := ranked{params: t.Names[1:], body: t.Kids[0], env: r}
		return r.with(d, t.Names[0]).of(t.Kids[1])
	case api.ExprApply:
		return r.applied(t, l, most, permit)
	}
	return permit(most < 3, most)
}

func (r ranks) applied(t *exprs.Tree, l []int, most int, permit func(bool, int) int) int {
	formula := func(i int) bool { return l[i] != 2 }
	switch t.Text {
	case "'", "UNCHANGED":
		return permit(l[0] <= 1, 2*l[0])
	case "ENABLED":
		return permit(l[0] <= 2, 1)
	case "\\cdot":
		return permit(most <= 2, 2)
	case "[]":
		return permit(formula(0) || t.Kids[0].Kind == api.ExprBox, 3)
	case "<>":
		return permit(formula(0) || t.Kids[0].Kind == api.ExprAngle, 3)
	case "~>":
		return permit(formula(0) && formula(1), 3)
	case "~", "/\\", "\\/", "=>", "<=>":
		return most
	}
	if r.isUse(t) {
		return r.use(t, l)
	}
	return permit(most < 3, most)
}

func (r ranks) isUse(t *exprs.Tree) bool {
	_, is := r[t.Text]
	return t.Kind == api.ExprApply && is
}

// use returns the level of a name with operands of some levels; of a parameter with operands the highest one.
func (r ranks) use(t *exprs.Tree, l []int) int {
	x := r[t.Text]
	if slices.Contains(l, wrong) {
		return wrong
	}
	if x.body == nil {
		return slices.Max(append(l, x.level))
	}
	env := x.env
	for i, p := range x.params {
		level := 0
		if i < len(l) {
			level = l[i]
		}
		env = env.with(ranked{level: level}, p)
	}
	return env.of(x.body)
}

// temporal makes an expression of any level.
func (m *maker) temporal(depth int) string {
	if depth <= 0 {
		return m.pick(append([]string{"1", "c", "x", "y", "x'", "TRUE"}, m.bound...)...)
	}
	sub := func() string { return m.temporal(depth - 1 - m.Intn(2)) }
	switch m.Intn(16) {
	case 0, 1:
		return "(" + sub() + m.pick(" /\\ ", " => ", " + ", " = ", " \\in ") + sub() + ")"
	case 2:
		return "(" + sub() + ")'"
	case 3:
		return "UNCHANGED (" + sub() + ")"
	case 4:
		return "(ENABLED (" + sub() + "))"
	case 5, 6:
		return "(" + m.pick("[]", "<>") + "(" + sub() + "))"
	case 7:
		return "([][" + sub() + "]_(" + m.pick("x", "<<x, y>>", "c", "x'") + "))"
	case 8:
		return "(<><<" + sub() + ">>_x)"
	case 9:
		return "(" + sub() + m.pick(" ~> ", " \\cdot ") + sub() + ")"
	case 10:
		return m.pick("WF", "SF") + "_x(" + sub() + ")"
	case 11:
		set := sub()
		m.bound = append(m.bound, "u")
		body := sub()
		m.bound = m.bound[:len(m.bound)-1]
		return "(" + m.pick("\\A ", "\\E ") + "u \\in " + set + " : " + body + ")"
	case 12:
		return m.pick("D1", "D2") + "(" + sub() + ")"
	case 13:
		return "K(" + m.pick("D1", "LAMBDA q : "+sub()) + ", " + sub() + ")"
	case 14:
		return "(LET L(n) == " + sub() + " IN L(" + sub() + "))"
	}
	return "{" + sub() + ", " + sub() + "}"
}

// TestLevels compares levels with a direct calculation, and with those of what is expanded.
func TestLevels(t *testing.T) {
	m := newMaker(6)
	plain := func(depth int) string {
		for {
			if s := m.temporal(depth); !strings.Contains(s, "D1") && !strings.Contains(s, "D2") && !strings.Contains(s, "K(") {
				return strings.ReplaceAll(s, "y", "a")
			}
		}
	}
	for range 4000 {
		s := api.LevelScope{Constants: []string{"c"}, Vars: []string{"x", "y"}}
		env := ranks{"c": {}, "x": {level: 1}, "y": {level: 1}}
		add := func(d api.Def) {
			s.Defs = append(s.Defs, d)
			env = env.with(ranked{params: d.Params, body: exprs.Grow(d.Body), env: env}, d.Name)
		}
		add(api.Def{Name: "D1", Params: []string{"a"}, Arities: []int{0}, Body: m.any(func(int) string { return plain(2) })})
		add(api.Def{Name: "D2", Params: []string{"a"}, Arities: []int{0}, Body: m.any(func(int) string { return plain(2) })})
		add(api.Def{Name: "K", Params: []string{"G", "k"}, Arities: []int{1, 0}, Body: expr(t, m.pick("G(1) = k", "k' = G(x)", "[](G(k))", "G(G(k))", "(ENABLED (G(1))) /\\ k"))})
		e := m.any(m.temporal)
		got, err := level.LevelOf(s, e)
		if err == api.ErrLevel {
			got = wrong
		} else if err != api.OK {
			t.Fatal(text(e), err)
		}
		if want := env.of(exprs.Grow(e)); got != want {
			t.Fatal(text(e), text(s.Defs[0].Body), text(s.Defs[1].Body), text(s.Defs[2].Body), got, want)
		}
		if got == wrong || strings.Contains(text(e), "K(") {
			continue
		}
		if full, err := instance.Expanded(s, e); err == api.OK {
			if again, err := level.LevelOf(s, full); again != got || err != api.OK {
				t.Fatal(text(e), text(full), got, again, err)
			}
		}
	}
}
