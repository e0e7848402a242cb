package whole

import (
	"math/rand"
	"testing"

	"stutter/api"
	"stutter/parse"
	"stutter/tree"
	"stutter/value"
)

// maker makes texts of expressions at random; bound is the names that are bound around.
type maker struct {
	*rand.Rand
	bound []string
}

func newMaker(seed int64) *maker { return &maker{Rand: rand.New(rand.NewSource(seed))} }

func (m *maker) pick(l ...string) string { return l[m.Intn(len(l))] }

// within returns a bound of a name, and a body in which it is bound.
func (m *maker) within(depth int, body func(int) string) (string, string) {
	set := m.set(depth)
	name := m.pick("u", "v", "w", "x")
	m.bound = append(m.bound, name)
	text := body(depth)
	m.bound = m.bound[:len(m.bound)-1]
	return name + " \\in " + set, text
}

func (m *maker) integer(depth int) string {
	if depth <= 0 {
		return m.pick(append([]string{"0", "1", "2", "3", "x", "y"}, m.bound...)...)
	}
	d := depth - 1
	switch m.Intn(12) {
	case 0, 1, 2:
		return "(" + m.integer(d) + m.pick(" + ", " - ", " * ") + m.integer(d) + ")"
	case 3:
		return "(" + m.integer(d) + m.pick(" \\div ", " % ") + m.integer(d) + ")"
	case 4:
		return "(IF " + m.boolean(d) + " THEN " + m.integer(d) + " ELSE " + m.integer(d) + ")"
	case 5:
		bound, body := m.within(d, m.boolean)
		return "(CHOOSE " + bound + " : " + body + ")"
	case 6, 7:
		return "F(" + m.integer(d) + ", " + m.integer(d) + ")"
	case 8:
		bound, body := m.within(d, m.integer)
		return "[" + bound + " |-> " + body + "][" + m.integer(d) + "]"
	case 9:
		return "<<" + m.integer(d) + ", " + m.integer(d) + ">>[" + m.integer(d) + "]"
	case 10:
		return "(LET G(n) == " + m.integer(d) + " + n IN G(" + m.integer(d) + "))"
	}
	return "(CASE " + m.boolean(d) + " -> " + m.integer(d) + " [] OTHER -> " + m.integer(d) + ")"
}

func (m *maker) boolean(depth int) string {
	if depth <= 0 {
		return m.pick("TRUE", "FALSE", "x < y", "x = 1")
	}
	d := depth - 1
	switch m.Intn(9) {
	case 0:
		return m.integer(d) + m.pick(" < ", " <= ", " = ", " # ", " > ", " >= ") + m.integer(d)
	case 1:
		return m.integer(d) + m.pick(" \\in ", " \\notin ") + m.set(d)
	case 2, 3:
		return "(" + m.boolean(d) + m.pick(" /\\ ", " \\/ ", " => ", " <=> ") + m.boolean(d) + ")"
	case 4:
		return "(~" + m.boolean(d) + ")"
	case 5, 6:
		bound, body := m.within(d, m.boolean)
		return "(" + m.pick("\\A ", "\\E ") + bound + " : " + body + ")"
	case 7:
		return m.set(d) + m.pick(" \\subseteq ", " = ") + m.set(d)
	}
	return "(IF " + m.boolean(d) + " THEN " + m.boolean(d) + " ELSE " + m.boolean(d) + ")"
}

func (m *maker) set(depth int) string {
	if depth <= 0 {
		return m.pick("{1, 2}", "{0, 3}", "(1 .. 3)", "{}", "(0 .. 1)")
	}
	d := depth - 1
	switch m.Intn(7) {
	case 0:
		return "{" + m.integer(d) + ", " + m.integer(d) + "}"
	case 1:
		return "(" + m.integer(d) + " .. " + m.integer(d) + ")"
	case 2:
		return "(" + m.set(d) + m.pick(" \\cup ", " \\cap ", " \\ ") + m.set(d) + ")"
	case 3:
		bound, body := m.within(d, m.boolean)
		return "{" + bound + " : " + body + "}"
	case 4:
		bound, body := m.within(d, m.integer)
		return "{" + body + " : " + bound + "}"
	case 5:
		return "(UNION {" + m.set(d) + ", " + m.set(d) + "})"
	}
	return "(IF " + m.boolean(d) + " THEN " + m.set(d) + " ELSE " + m.set(d) + ")"
}

// any returns an expression that is not too long for a line.
func (m *maker) any(kinds ...func(int) string) api.Expr {
	for {
		text := kinds[m.Intn(len(kinds))](3)
		if len(text) > api.MaxColumns {
			continue
		}
		if e, _, err := parse.ParseExpr([]string{text}); err == api.OK {
			return e
		}
	}
}

// definitions has the operator F, which the expressions of a maker use.
func definitions(t testing.TB) []api.Def {
	return []api.Def{{Name: "F", Params: []string{"a", "b"}, Arities: []int{0, 0}, Body: expr(t, "IF a = 0 THEN 0 ELSE b + y")}}
}

// context gives all names of a maker values.
func (m *maker) context(t testing.TB) api.Context {
	c := api.Context{Defs: definitions(t)}
	for _, name := range []string{"x", "y", "u", "v", "w"} {
		c.Values = append(c.Values, api.Binding{Name: name, Value: number(m.Intn(4))})
	}
	return c
}

func text(e api.Expr) string {
	s, _ := tree.FormatExpr(e)
	return s
}

func same(a, b api.Value) bool {
	n, err := value.Compare(a, b)
	return err == api.OK && n == 0
}
