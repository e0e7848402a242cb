package whole

import (
	"slices"
	"testing"

	"stutter/action"
	"stutter/api"
	"stutter/exprs"
)

// walk goes through actions of the variables x and y as chapter 12 says: with lists. It panics with a fault.
type walk struct{ names map[string]int }

// pair is the values of x and y; below 0: not assigned.
type pair [2]int

var nothing = pair{-1, -1}

func variable(name string) int { return slices.Index([]string{"x", "y"}, name) }

// primed is the variable that a node primes, or below 0.
func primed(t *exprs.Tree) int {
	if t.Kind == api.ExprApply && t.Text == "'" && t.Kids[0].Kind == api.ExprName {
		return variable(t.Kids[0].Text)
	}
	return -1
}

func stop(t *exprs.Tree, err api.Errno) { panic(fault{err, t.Index}) }

// number evaluates a node that is a number.
func (w *walk) number(t *exprs.Tree, from, now pair) int {
	if v := primed(t); v >= 0 {
		if now[v] < 0 {
			stop(t.Kids[0], api.ErrUnassigned)
		}
		return now[v]
	}
	n, bound := w.names[t.Text]
	switch {
	case t.Kind == api.ExprNumber:
		return t.N
	case t.Kind == api.ExprApply:
		a := w.number(t.Kids[0], from, now)
		return a + w.number(t.Kids[1], from, now)
	case bound:
		return n
	case variable(t.Text) >= 0:
		return from[variable(t.Text)]
	}
	stop(t, api.ErrMissing)
	return 0
}

// truth evaluates a node that must be a truth value.
func (w *walk) truth(t *exprs.Tree, from, now pair) bool {
	switch {
	case t.Text == "TRUE" || t.Text == "FALSE":
		return t.Text == "TRUE"
	case t.Text == "=" || t.Text == "<":
		a := w.number(t.Kids[0], from, now)
		b := w.number(t.Kids[1], from, now)
		return t.Text == "=" && a == b || t.Text == "<" && a < b
	case t.Text == `\in`:
		a := w.number(t.Kids[0], from, now)
		return slices.Contains(w.members(t.Kids[1], from, now), a)
	case t.Text == "ENABLED":
		return len(w.after(t.Kids[0], from)) > 0
	case t.Text == "UNCHANGED":
		return w.unchanged(t.Kids[0], from, now)
	}
	w.number(t, from, now)
	stop(t, api.ErrType)
	return false
}

func (w *walk) members(t *exprs.Tree, from, now pair) []int {
	var out []int
	for _, k := range t.Kids {
		out = append(out, w.number(k, from, now))
	}
	slices.Sort(out)
	return slices.Compact(out)
}

// unchanged says whether variables that are assigned are unchanged: first all is evaluated primed.
func (w *walk) unchanged(t *exprs.Tree, from, now pair) bool {
	l := []*exprs.Tree{t}
	if t.Kind == api.ExprTuple {
		l = t.Kids
	}
	out := true
	for _, k := range l {
		v := variable(k.Text)
		if now[v] < 0 {
			stop(k, api.ErrUnassigned)
		}
		out = out && now[v] == from[v]
	}
	return out
}

// after is the successors of a state, ascending.
func (w *walk) after(t *exprs.Tree, from pair) []pair {
	l := w.lists(t, from, nothing)
	for _, p := range l {
		if min(p[0], p[1]) < 0 {
			stop(t, api.ErrUnassigned)
		}
	}
	slices.SortFunc(l, func(a, b pair) int { return slices.Compare(a[:], b[:]) })
	return slices.Compact(l)
}

func with(p pair, variable, n int) pair {
	p[variable] = n
	return p
}

// lists are the lists that a node gives.
func (w *walk) lists(t *exprs.Tree, from, now pair) []pair {
	var out []pair
	switch {
	case t.Text == `/\`:
		for _, p := range w.lists(t.Kids[0], from, now) {
			out = append(out, w.lists(t.Kids[1], from, p)...)
		}
		return out
	case t.Text == `\/`:
		out = w.lists(t.Kids[0], from, now)
		return append(out, w.lists(t.Kids[1], from, now)...)
	case t.Kind == api.ExprSome:
		for _, n := range w.members(t.Kids[0], from, now) {
			w.names[t.Names[0]] = n
			out = append(out, w.lists(t.Kids[1], from, now)...)
		}
		delete(w.names, t.Names[0])
		return out
	case t.Kind == api.ExprIf:
		if w.truth(t.Kids[0], from, now) {
			return w.lists(t.Kids[1], from, now)
		}
		return w.lists(t.Kids[2], from, now)
	case t.Kind == api.ExprBox:
		out = w.lists(t.Kids[0], from, now)
		return append(out, w.kept(t.Kids[1], from, now)...)
	case t.Kind == api.ExprAngle:
		for _, p := range w.lists(t.Kids[0], from, now) {
			if !w.unchanged(t.Kids[1], from, p) {
				out = append(out, p)
			}
		}
		return out
	case t.Text == `\cdot`:
		for _, p := range w.after(t.Kids[0], from) {
			for _, q := range w.after(t.Kids[1], p) {
				if (now[0] < 0 || now[0] == q[0]) && (now[1] < 0 || now[1] == q[1]) {
					out = append(out, q)
				}
			}
		}
		return out
	case t.Text == "UNCHANGED":
		return w.kept(t.Kids[0], from, now)
	case t.Text == "=" && primed(t.Kids[0]) >= 0 && now[primed(t.Kids[0])] < 0:
		return []pair{with(now, primed(t.Kids[0]), w.number(t.Kids[1], from, now))}
	case t.Text == `\in` && primed(t.Kids[0]) >= 0 && now[primed(t.Kids[0])] < 0:
		for _, n := range w.members(t.Kids[1], from, now) {
			out = append(out, with(now, primed(t.Kids[0]), n))
		}
		return out
	}
	if w.truth(t, from, now) {
		return []pair{now}
	}
	return nil
}

// kept is UNCHANGED of a variable, or of a tuple.
func (w *walk) kept(t *exprs.Tree, from, now pair) []pair {
	l := []*exprs.Tree{t}
	if t.Kind == api.ExprTuple {
		l = t.Kids
	}
	for _, k := range l {
		v := variable(k.Text)
		if now[v] >= 0 && now[v] != from[v] {
			return nil
		}
		now[v] = from[v]
	}
	return []pair{now}
}

// faulty makes an action in which something may be wrong.
func (m *maker) faulty(depth int) string {
	n := func() string { return m.pick(append([]string{"0", "1", "2", "x", "y", "x + 1"}, m.bound...)...) }
	v := m.pick("x", "y")
	if depth <= 0 {
		switch m.Intn(12) {
		case 0, 1, 2:
			return v + "' = " + n()
		case 3, 4:
			return v + "' \\in {" + n() + ", " + n() + "}"
		case 5:
			return "UNCHANGED " + m.pick("x", "y", "<<x, y>>", "<<y, x>>")
		case 6, 7:
			return m.pick("TRUE", "FALSE", "x < y", "x = 1")
		case 8:
			return v + "' < " + n()
		case 9:
			return n() + " = " + v + "'"
		case 10:
			return v + "' = " + m.pick("x'", "y'")
		}
		return m.pick("1", "zz", "x' = zz", "y' \\in {1, zz}", "2", "zz < 1")
	}
	d := depth - 1
	switch m.Intn(14) {
	case 0, 1, 2, 3, 4:
		return "(" + m.faulty(d) + " /\\ " + m.faulty(d) + ")"
	case 5, 6, 7, 8:
		return "(" + m.faulty(d) + " \\/ " + m.faulty(d) + ")"
	case 9:
		name := m.pick("u", "v")
		if slices.Contains(m.bound, name) {
			return m.faulty(d)
		}
		set := "{" + n() + ", " + n() + "}"
		m.bound = append(m.bound, name)
		body := m.faulty(d)
		m.bound = m.bound[:len(m.bound)-1]
		return "(\\E " + name + " \\in " + set + " : " + body + ")"
	case 10:
		return "(IF x < y THEN " + m.faulty(d) + " ELSE " + m.faulty(d) + ")"
	case 11:
		return "[" + m.faulty(d) + "]_" + m.pick("x", "<<x, y>>")
	case 12:
		return "<<" + m.faulty(d) + ">>_" + m.pick("y", "<<x, y>>")
	}
	return m.pick("(ENABLED "+"("+m.faulty(d)+"))", "(("+m.faulty(d)+") \\cdot ("+m.faulty(d)+"))")
}

// walked is the successors that lists give, or the fault.
func walked(t *exprs.Tree, from pair) (out []pair, f fault) {
	defer func() {
		if r := recover(); r != nil {
			out, f = nil, r.(fault)
		}
	}()
	w := &walk{map[string]int{}}
	return w.after(t, from), fault{}
}

// TestLists compares the successors by actions, their errors and places with those that lists give.
func TestLists(t *testing.T) {
	m := newMaker(43)
	faults := map[api.Errno]int{}
	for range 8000 {
		e := m.any(m.faulty)
		from := pair{m.Intn(3), m.Intn(3)}
		want, f := walked(exprs.Grow(e), from)
		faults[f.err]++
		x := api.State{number(from[0]), number(from[1])}
		s := api.Spec{Vars: []string{"x", "y"}, Init: expr(t, "x = 0"), Next: e}
		got, at, err := action.Successors(s, x, e)
		wrong := err != f.err || at != f.at || len(got) != len(want)
		for i := 0; i < len(want) && !wrong; i++ {
			wrong = got[i][0].N != want[i][0] || got[i][1].N != want[i][1]
		}
		if wrong {
			t.Fatal(text(e), from, got, at, err, want, f)
		}
		is, at, err := action.EnabledIn(s, x, e)
		if is != (len(want) > 0) || at != f.at || err != f.err {
			t.Fatal(text(e), from, is, at, err, want, f)
		}
	}
	for _, err := range []api.Errno{api.OK, api.ErrType, api.ErrMissing, api.ErrUnassigned} {
		if faults[err] < 200 {
			t.Error("seldom:", err, faults)
		}
	}
}
