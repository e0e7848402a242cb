package whole

import (
	"strings"
	"testing"

	"stutter/action"
	"stutter/api"
	"stutter/explain"
	"stutter/instance"
)

// action makes an action of x and y.
func (m *maker) action(depth int) string {
	if depth <= 0 {
		v, w := m.pick("x", "y"), m.pick("x'", "y'")
		switch m.Intn(8) {
		case 0, 1:
			return v + "' = " + m.integer(1)
		case 2:
			return v + "' \\in " + m.set(1)
		case 3:
			return "UNCHANGED " + m.pick("x", "y", "<<x, y>>", "<<y, x>>")
		case 4:
			return m.boolean(1)
		case 5:
			return v + "' = " + w + " + 1"
		case 6:
			return w + m.pick(" < ", " = ", " # ") + m.integer(0)
		}
		return "x' = y /\\ y' = x"
	}
	d := depth - 1
	switch m.Intn(8) {
	case 0, 1, 2, 3:
		return "(" + m.action(d) + " /\\ " + m.action(d) + ")"
	case 4:
		return "(" + m.action(d) + " \\/ " + m.action(d) + ")"
	case 5:
		bound, body := m.within(1, func(int) string { return m.action(d) })
		return "(\\E " + bound + " : " + body + ")"
	case 6:
		return "(IF " + m.boolean(1) + " THEN " + m.action(d) + " ELSE " + m.action(d) + ")"
	}
	if m.Intn(2) == 0 {
		return "[" + m.action(d) + "]_<<x, y>>"
	}
	return "<<" + m.action(d) + ">>_x"
}

func pairOf(m *maker) api.State { return api.State{number(m.Intn(3)), number(m.Intn(3))} }

// TestSuccessors compares the successors by an action with all states of small numbers for which it holds.
func TestSuccessors(t *testing.T) {
	m := newMaker(12)
	compared := 0
	for compared < 150 {
		e, from := m.any(m.action), pairOf(m)
		s := api.Spec{Vars: []string{"x", "y"}, Defs: definitions(t), Init: expr(t, "x = 0"), Next: e}
		got, _, err := action.Successors(s, from, e)
		if err != api.OK {
			continue
		}
		clean := true
		var want []api.State
		for at := range 49 {
			to := api.State{number(at/7 - 1), number(at%7 - 1)}
			holds, _, err := action.HoldsFor(s, api.StatePair{From: from, To: to}, e)
			clean = clean && err == api.OK
			if holds {
				want = append(want, to)
			}
		}
		if !clean {
			continue
		}
		compared++
		small := 0
		for _, x := range got {
			if min(x[0].N, x[1].N) < -1 || max(x[0].N, x[1].N) > 5 {
				continue
			}
			if small == len(want) || !same(x[0], want[small][0]) || !same(x[1], want[small][1]) {
				t.Fatal(text(e), from, got, want)
			}
			small++
		}
		if small != len(want) {
			t.Fatal(text(e), from, got, want)
		}
		if enabled, _, err := action.EnabledIn(s, from, e); enabled != (len(got) > 0) || err != api.OK {
			t.Fatal(text(e), from, enabled, err)
		}
	}
}

// step makes an expression over two states.
func (m *maker) step(depth int) string {
	s := strings.ReplaceAll(m.boolean(depth-1), " y", m.pick(" y", " y'"))
	switch m.Intn(6) {
	case 0:
		return "(" + s + " /\\ UNCHANGED <<x, y>>)"
	case 1:
		return "(" + s + " \\/ UNCHANGED (x + y))"
	case 2:
		return "((x + y)' > " + m.pick("x", "y", "x'") + " /\\ " + s + ")"
	case 3:
		return "([" + s + "]_<<x, y>>)"
	case 4:
		return "((\\E u \\in {1, 2} : u = y)' \\/ " + s + ")"
	}
	return s
}

// TestInstances compares an expression over two states with its instance, with what it is with primes moved, and with its reason.
func TestInstances(t *testing.T) {
	m := newMaker(31)
	compared := 0
	for compared < 1500 {
		e := m.any(m.step)
		defs := append(definitions(t), api.Def{Name: "Act", Body: e})
		n := api.LevelScope{Vars: []string{"x", "y"}, Defs: defs}
		x, y := expr(t, m.pick("a", "b + 1", "a * b", "IF a > 1 THEN b ELSE 0")), expr(t, m.pick("b", "a + b", "2", "CHOOSE z \\in {a, b} : TRUE"))
		made, err := instance.InstanceOf(n, api.LevelScope{Vars: []string{"a", "b"}}, api.Substitution{Names: []string{"x", "y"}, With: []api.Expr{x, y}}, "I_")
		if err != api.OK {
			continue
		}
		inner := api.Spec{Vars: n.Vars, Defs: defs, Init: expr(t, "x = 0"), Next: e}
		outer := api.Spec{Vars: []string{"a", "b"}, Defs: made, Init: expr(t, "a = 0"), Next: expr(t, "I_Act")}
		pair, mapped := api.StatePair{From: pairOf(m), To: pairOf(m)}, api.StatePair{}
		for _, v := range []api.Expr{x, y} {
			from, _, _ := action.ValueAt(outer, api.StatePair{From: pair.From, To: pair.From}, v)
			to, _, _ := action.ValueAt(outer, api.StatePair{From: pair.To, To: pair.To}, v)
			mapped.From, mapped.To = append(mapped.From, from), append(mapped.To, to)
		}
		want, _, err := action.HoldsFor(inner, mapped, e)
		if err != api.OK {
			continue
		}
		compared++
		if is, _, err := action.HoldsFor(outer, pair, outer.Next); is != want || err != api.OK {
			t.Fatal(text(e), text(made[1].Body), pair, is, err)
		}
		full, err := instance.Expanded(n, e)
		if err != api.OK {
			continue
		}
		moved, err := instance.PrimesMoved(n, full)
		if err != api.OK {
			t.Fatal(text(full), err)
		}
		if is, _, err := action.HoldsFor(inner, mapped, moved); is != want || err != api.OK {
			t.Fatal(text(e), text(moved), mapped, is, err)
		}
		reason, err := explain.WhyStep(inner, e, mapped)
		if err == api.OK && (reason.True != want || explain.CheckReason(inner, e, mapped, reason) != api.OK) {
			t.Fatal(text(e), mapped, reason)
		}
	}
}
