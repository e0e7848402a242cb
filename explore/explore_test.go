package explore

import (
	"math/rand"
	"slices"
	"strings"
	"testing"

	"stutter/action"
	"stutter/api"
	"stutter/parse"
	"stutter/values"
)

func expr(t *testing.T, s string) api.Expr {
	t.Helper()
	e, p, err := parse.ParseExpr([]string{s})
	if err != api.OK {
		t.Fatalf("%s: %v %d", s, p, err)
	}
	return e
}

func model(t *testing.T, vars, init, next string) api.Model {
	t.Helper()
	return api.Model{Spec: api.Spec{Vars: strings.Fields(vars), Init: expr(t, init), Next: expr(t, next)}, Most: 400}
}

func counter(t *testing.T) api.Model { return model(t, "x", "x = 0", "x < 3 /\\ x' = x + 1") }

func numbers(l []api.State) []int {
	var out []int
	for _, s := range l {
		out = append(out, s[0].N)
	}
	return out
}

func TestExplore(t *testing.T) {
	for i, c := range []struct {
		change         func(m *api.Model)
		states         []int
		edges          int
		verdict, index int
		trace          []int
		fault          api.Errno
	}{
		{func(*api.Model) {}, []int{0, 1, 2, 3}, 3, api.ExploreKept, 0, nil, api.OK},
		{func(m *api.Model) { m.Deadlock = true }, []int{0, 1, 2, 3}, 3, api.ExploreDeadlock, 0, []int{0, 1, 2, 3}, api.OK},
		{func(m *api.Model) { m.Invariants = []api.Expr{expr(t, "TRUE"), expr(t, "x < 2")} }, []int{0, 1, 2}, 1, api.ExploreInvariant, 1, []int{0, 1, 2}, api.OK},
		{func(m *api.Model) { m.Invariants = []api.Expr{expr(t, "x > 0")} }, []int{0}, 0, api.ExploreInvariant, 0, []int{0}, api.OK},
		{func(m *api.Model) { m.Steps = []api.Expr{expr(t, "x' < 3")} }, []int{0, 1, 2}, 2, api.ExploreStep, 0, []int{0, 1, 2, 3}, api.OK},
		{func(m *api.Model) { m.Constraint = expr(t, "x < 2"); m.Deadlock = true }, []int{0, 1, 2}, 2, api.ExploreKept, 0, nil, api.OK},
		{func(m *api.Model) { m.Most = 2 }, []int{0, 1}, 1, api.ExploreFull, 0, []int{0, 1, 2}, api.OK},
		{func(m *api.Model) { m.View = expr(t, "x % 2") }, []int{0, 1}, 2, api.ExploreKept, 0, nil, api.OK},
		{func(m *api.Model) { m.View = expr(t, "0") }, []int{0}, 1, api.ExploreKept, 0, nil, api.OK},
		{func(m *api.Model) { m.Spec.Init = expr(t, "x = 0 /\\ FALSE") }, nil, 0, api.ExploreKept, 0, nil, api.OK},
		{func(m *api.Model) { m.Spec.Init = expr(t, "x = zz") }, nil, 0, api.ExploreFailed, 0, nil, api.ErrMissing},
		{func(m *api.Model) { m.Invariants = []api.Expr{expr(t, "1 = 1"), expr(t, "x # 2 \\/ zz")} }, []int{0, 1, 2}, 1, api.ExploreFailed, 0, []int{0, 1, 2}, api.ErrMissing},
		{func(m *api.Model) { m.View = expr(t, "IF x = 2 THEN zz ELSE x") }, []int{0, 1}, 1, api.ExploreFailed, 0, []int{0, 1, 2}, api.ErrMissing},
		{func(m *api.Model) { m.Steps = []api.Expr{expr(t, "IF x' = 2 THEN zz ELSE TRUE")} }, []int{0, 1}, 1, api.ExploreFailed, 0, []int{0, 1, 2}, api.ErrMissing},
		{func(m *api.Model) { m.Constraint = expr(t, "IF x = 2 THEN zz ELSE TRUE") }, []int{0, 1, 2}, 2, api.ExploreFailed, 0, []int{0, 1, 2}, api.ErrMissing},
		{func(m *api.Model) { m.Spec.Next = expr(t, "x' = IF x = 1 THEN zz ELSE x + 1") }, []int{0, 1}, 1, api.ExploreFailed, 0, []int{0, 1}, api.ErrMissing},
		{func(m *api.Model) { m.Spec.Next = expr(t, "x' = x") }, []int{0}, 1, api.ExploreKept, 0, nil, api.OK},
		{func(m *api.Model) { m.Spec.Init = expr(t, "x \\in {5, 4}"); m.Spec.Next = expr(t, "x' = 4") }, []int{4, 5}, 2, api.ExploreKept, 0, nil, api.OK},
		{func(m *api.Model) { m.Spec.Init = expr(t, "x \\in {5, 4}"); m.Most = 1 }, []int{4}, 0, api.ExploreFull, 0, []int{5}, api.OK},
	} {
		m := counter(t)
		c.change(&m)
		x, err := Explore(m)
		if !slices.Equal(numbers(x.States), c.states) || len(x.Edges) != c.edges || x.Verdict != c.verdict || x.Index != c.index || !slices.Equal(numbers(x.Trace), c.trace) || x.Fault != c.fault || err != api.OK {
			t.Errorf("%d: %v %d", i, x, err)
		}
	}
	x, _ := Explore(counter(t))
	if !slices.Equal(x.From, []int{-1, 0, 1, 2}) || !slices.Equal(x.Action, []int{0, 0, 0, 0}) || x.Edges[1] != (api.Edge{From: 1, To: 2}) {
		t.Error(x)
	}
	m := model(t, "x", "x = 0", "(x < 2 /\\ x' = 5) \\/ (x' = x + 1 /\\ x < 2)")
	x, _ = Explore(m)
	if !slices.Equal(x.Action, []int{0, 1, 0, 1}) && !slices.Equal(numbers(x.States), []int{0, 1, 5, 2}) {
		t.Error(x)
	}
}

func TestCheckModel(t *testing.T) {
	for i, c := range []struct {
		change func(m *api.Model)
		at     int
		err    api.Errno
	}{{func(*api.Model) {}, 0, api.OK}, {func(m *api.Model) { m.Spec.Vars = nil }, 0, api.ErrEmpty}, {func(m *api.Model) { m.Invariants = make([]api.Expr, 7) }, 0, api.ErrLarge}, {func(m *api.Model) { m.Steps = make([]api.Expr, 7) }, 0, api.ErrLarge}, {func(m *api.Model) { m.Invariants = []api.Expr{expr(t, "x"), nil} }, 1, api.ErrEmpty}, {func(m *api.Model) { m.Steps = []api.Expr{expr(t, "x"), {{Kind: -1}}} }, 1, api.ErrKind}, {func(m *api.Model) { m.Constraint = api.Expr{{Kind: -1}} }, 0, api.ErrKind}, {func(m *api.Model) { m.View = api.Expr{{Kind: -1}} }, 0, api.ErrKind}, {func(m *api.Model) { m.Most = 0 }, 0, api.ErrRange}, {func(m *api.Model) { m.Most = 401 }, 0, api.ErrRange}} {
		m := counter(t)
		c.change(&m)
		if at, err := CheckModel(m); at != c.at || err != c.err {
			t.Errorf("%d: %d %d", i, at, err)
		}
		if c.err == api.OK {
			continue
		}
		_, e1 := Explore(m)
		_, e2 := ExploreBy(m, 0, nil)
		_, e3 := GraphOf(m)
		_, e4 := CheckTrace(m, nil)
		_, _, e5 := DepthOf(m)
		_, e6 := ReachOf(m, nil)
		for _, e := range []api.Errno{e1, e2, e3, e4, e5, e6} {
			if e != c.err {
				t.Errorf("%d: %d", i, e)
			}
		}
	}
}

func TestGraphs(t *testing.T) {
	m := counter(t)
	g, err := GraphOf(m)
	if g.Graph.States != 4 || !slices.Equal(g.Graph.Init, []int{0}) || len(g.Graph.Edges) != 3 || !slices.Equal(numbers(g.Values), []int{0, 1, 2, 3}) || err != api.OK {
		t.Error(g, err)
	}
	if d, l, err := DepthOf(m); d != 3 || !slices.Equal(l, []int{0, 1, 2, 3}) || err != api.OK {
		t.Error(d, l, err)
	}
	for i, change := range []func(m *api.Model){func(m *api.Model) { m.Deadlock = true }, func(m *api.Model) { m.View = expr(t, "x") }, func(m *api.Model) { m.Constraint = expr(t, "TRUE") }} {
		m := counter(t)
		change(&m)
		_, e1 := GraphOf(m)
		_, _, e2 := DepthOf(m)
		if e1 != api.ErrRefused || e2 != api.ErrRefused {
			t.Errorf("%d: %d %d", i, e1, e2)
		}
	}
	big := model(t, "x", "x = 0", "x' \\in 0 .. 50")
	if _, err := GraphOf(big); err != api.ErrLarge {
		t.Error(err)
	}
	states := func(l ...int) (out []api.State) {
		for _, n := range l {
			out = append(out, api.State{values.Int(n)})
		}
		return out
	}
	failing := model(t, "x", "x = 0", "x' = IF x = 1 THEN zz ELSE x + 1")
	for i, c := range []struct {
		m     api.Model
		trace []api.State
		at    int
		err   api.Errno
	}{{m, states(0, 1, 2), 3, api.OK}, {m, nil, 0, api.ErrEmpty}, {m, make([]api.State, 61), 0, api.ErrLarge}, {m, append(states(0), nil), 1, api.ErrShape}, {m, states(1), 0, api.ErrMissing}, {m, states(0, 2), 1, api.ErrMissing}, {m, states(0, 0), 1, api.ErrMissing}, {failing, states(0, 1, 2), 2, api.ErrMissing}, {model(t, "x", "x = zz", "TRUE"), states(0), 0, api.ErrMissing}, {model(t, "x", "x = 1 \\div 0", "TRUE"), states(0), 0, api.ErrZero}} {
		if at, err := CheckTrace(c.m, c.trace); at != c.at || err != c.err {
			t.Errorf("%d: %d %d", i, at, err)
		}
	}
	if l, err := ReachOf(m, expr(t, "x = 2")); !slices.Equal(numbers(l), []int{0, 1, 2}) || err != api.OK {
		t.Error(l, err)
	}
	m.Invariants, m.Deadlock, m.Steps = []api.Expr{expr(t, "FALSE")}, true, []api.Expr{expr(t, "FALSE")}
	if l, err := ReachOf(m, expr(t, "x = 3")); len(l) != 4 || err != api.OK {
		t.Error(l, err)
	}
	_, e1 := ReachOf(m, expr(t, "x = 7"))
	_, e2 := ReachOf(m, expr(t, "zz"))
	_, e3 := ReachOf(m, nil)
	m.Most = 2
	_, e4 := ReachOf(m, expr(t, "x = 3"))
	if e1 != api.ErrNone || e2 != api.ErrFuel || e3 != api.ErrEmpty || e4 != api.ErrFull {
		t.Error(e1, e2, e3, e4)
	}
}

func TestWorkers(t *testing.T) {
	m := counter(t)
	for i, c := range []struct {
		workers  int
		schedule []int
		err      api.Errno
	}{{0, nil, api.ErrRange}, {5, nil, api.ErrRange}, {2, make([]int, 201), api.ErrLarge}, {2, []int{2}, api.ErrRange}, {2, []int{-1}, api.ErrRange}, {4, make([]int, 200), api.OK}} {
		if _, err := ExploreBy(m, c.workers, c.schedule); err != c.err {
			t.Errorf("%d: %d", i, err)
		}
	}
	// the worker 1 takes the second first state, and finds its successor first
	m = model(t, "x", "x \\in {0, 10}", "x < 12 /\\ x' = x + 1 /\\ x # 2")
	x, err := ExploreBy(m, 2, []int{0, 1, 1, 0})
	if !slices.Equal(numbers(x.States)[:4], []int{0, 10, 11, 1}) || err != api.OK {
		t.Error(numbers(x.States), err)
	}
	r := rand.New(rand.NewSource(7))
	for range 60 {
		m := model(t, "x y", "x \\in 0 .. 2 /\\ y = 0", "(x < 4 /\\ x' = x + 1 /\\ y' \\in {y, 1 - y}) \\/ (x > 1 /\\ x' = x - 2 /\\ y' = y)")
		if r.Intn(2) == 0 {
			m.Invariants = []api.Expr{expr(t, "x + y < 5")}
		}
		want, _ := Explore(m)
		workers := 1 + r.Intn(4)
		var schedule []int
		for range r.Intn(30) {
			schedule = append(schedule, r.Intn(workers))
		}
		got, err := ExploreBy(m, workers, schedule)
		if got.Verdict != want.Verdict || err != api.OK {
			t.Fatal(got.Verdict, want.Verdict, err)
		}
		if got.Verdict == api.ExploreInvariant {
			if _, err := CheckTrace(m, got.Trace); err != api.OK || len(got.Trace) < len(want.Trace) {
				t.Fatal(got.Trace, err)
			}
			continue
		}
		if len(got.States) != len(want.States) || len(got.Edges) != len(want.Edges) {
			t.Fatal(len(got.States), len(got.Edges))
		}
		for _, s := range want.States {
			if !slices.ContainsFunc(got.States, func(y api.State) bool { return values.SameState(s, y) }) {
				t.Fatal("missing", s)
			}
		}
		for i, s := range want.States { // closed, and with traces
			steps, _, _ := action.StepsFrom(m.Spec, s)
			for _, x := range steps {
				if !slices.ContainsFunc(want.States, func(y api.State) bool { return values.SameState(x.To, y) }) {
					t.Fatal("open", x)
				}
			}
			var trace []api.State
			for at := i; at != api.None; at = want.From[at] {
				trace = append(trace, want.States[at])
			}
			slices.Reverse(trace)
			if _, err := CheckTrace(m, trace); err != api.OK {
				t.Fatal(trace, err)
			}
		}
	}
}
