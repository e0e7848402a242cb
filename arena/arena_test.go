package arena

import (
	"math/rand"
	"reflect"
	"slices"
	"strings"
	"testing"

	"stutter/api"
	"stutter/parse"
	"stutter/solver"
	"stutter/value"
)

func expr(t *testing.T, s string) api.Expr {
	t.Helper()
	e, at, err := parse.ParseExpr(strings.Split(s, "\n"))
	if err != api.OK {
		t.Fatalf("%q: %d at %v", s, err, at)
	}
	return e
}

func domain(t *testing.T, l ...string) []api.Value {
	t.Helper()
	var res []api.Value
	for _, s := range l {
		v, _, err := value.ParseValue(s)
		if err != api.OK {
			t.Fatal(s, err)
		}
		res = append(res, v)
	}
	return res
}

func arenaOf(t *testing.T, init, next string, vars string, domains ...[]api.Value) api.ArenaSpec {
	t.Helper()
	s := api.Spec{Init: expr(t, init), Next: expr(t, next)}
	for _, r := range vars {
		s.Vars = append(s.Vars, string(r))
	}
	return api.ArenaSpec{Spec: s, Domains: domains}
}

func example(t *testing.T) api.ArenaSpec {
	return arenaOf(t, "x = 0", "x' = x + 1", "x", domain(t, "0", "1", "2"))
}

func states(t *testing.T, l ...string) []api.State {
	var res []api.State
	for _, s := range l {
		res = append(res, domain(t, s))
	}
	return res
}

func TestExample(t *testing.T) {
	x := example(t)
	if i, err := CheckArena(x); i != 0 || err != api.OK {
		t.Error(i, err)
	}
	if l, err := StatesOf(x); !reflect.DeepEqual(l, states(t, "0", "1", "2")) || err != api.OK {
		t.Error(l, err)
	}
	g, err := GraphOf(x)
	if g.States != 3 || !slices.Equal(g.Init, []int{0}) || !slices.Equal(g.Edges, []api.Edge{{From: 0, To: 1}, {From: 1, To: 2}}) || err != api.OK {
		t.Error(g, err)
	}
	if l, err := BitsOf(x, states(t, "0", "1")); !slices.Equal(l, []int{1, -2, -3, -4, 5, -6}) || err != api.OK {
		t.Error(l, err)
	}
	if l, err := Blocked(x, expr(t, "x < 2"), 1); !reflect.DeepEqual(l, [][]int{{-4}, {-5}}) || err != api.OK {
		t.Error(l, err)
	}
	if a, err := Bounded(x, expr(t, "x < 2"), 2); !reflect.DeepEqual(a, api.ArenaAnswer{Trace: states(t, "0", "1", "2")}) || err != api.OK {
		t.Error(a, err)
	}
	if a, err := Bounded(x, expr(t, "x < 2"), 1); len(a.Trace) != 0 || len(a.Refutations) != 2 || err != api.OK {
		t.Error(a, err)
	}
	if a, err := Inductive(x, expr(t, "x < 2")); !reflect.DeepEqual(a, api.ArenaInduction{Broken: states(t, "1", "2")}) || err != api.OK {
		t.Error(a, err)
	}
	if a, err := Inductive(x, expr(t, "x > 0")); !reflect.DeepEqual(a, api.ArenaInduction{Broken: states(t, "0")}) || err != api.OK {
		t.Error(a, err)
	}
	if a, err := Inductive(x, expr(t, "x # 5")); !reflect.DeepEqual(a, api.ArenaInduction{Kept: true}) || err != api.OK {
		t.Error(a, err)
	}
	for s, want := range map[string][]int{"x < 2": nil, "x # 5": {0, 1, 2}, "x # 0": {1, 2}, "x = 2": {2}} {
		if l, err := Strengthened(x, expr(t, s)); !slices.Equal(l, want) || err != api.OK {
			t.Error(s, l, err)
		}
	}
	if f, _ := FormulaOf(x, 3); !refuted(t, f) {
		t.Error("an execution of depth 3")
	}
}

func refuted(t *testing.T, f api.Clauses) bool {
	t.Helper()
	v, err := solver.Solve(f)
	if err != api.OK {
		t.Fatal(err)
	}
	return v.Refuted
}

func numbers(n int) []api.Value {
	var res []api.Value
	for i := range n {
		res = append(res, api.Value{Kind: api.ValueInt, N: i})
	}
	return res
}

func TestArenaErrors(t *testing.T) {
	zero := domain(t, "0")
	bad := example(t)
	bad.Spec.Vars = nil
	for i, c := range []struct {
		x   api.ArenaSpec
		at  int
		err api.Errno
	}{
		{bad, 0, api.ErrEmpty}, {arenaOf(t, "x = 0", "TRUE", "x"), 0, api.ErrShape}, {arenaOf(t, "x = 0", "TRUE", "x", zero, zero), 0, api.ErrShape},
		{arenaOf(t, "x = 0", "TRUE", "xy", zero, nil), 1, api.ErrEmpty}, {arenaOf(t, "x = 0", "TRUE", "xy", zero, []api.Value{{Kind: api.ValueBool, N: 2}}), 1, api.ErrForm}, {arenaOf(t, "x = 0", "TRUE", "xy", zero, domain(t, "1", "0")), 1, api.ErrOrder}, {arenaOf(t, "x = 0", "TRUE", "xy", domain(t, "0", "0"), nil), 0, api.ErrOrder},
		{arenaOf(t, "x = 0", "TRUE", "x", numbers(17)), 0, api.ErrLarge}, {arenaOf(t, "x = 0", "TRUE", "x", numbers(16)), 0, api.OK}, {arenaOf(t, "x = 0 /\\ y = 0", "TRUE", "xy", numbers(11), numbers(3)), 0, api.ErrLarge}, {arenaOf(t, "x = 0 /\\ y = 0", "TRUE", "xy", numbers(8), numbers(4)), 0, api.OK},
		{arenaOf(t, "x > 0", "TRUE", "x", zero), 0, api.ErrUnassigned}, {arenaOf(t, "x = 0", "x'", "x", zero), 0, api.ErrType}, {arenaOf(t, "x = 9", "x' = x", "x", zero), 0, api.OK},
	} {
		if at, err := CheckArena(c.x); at != c.at || err != c.err {
			t.Errorf("case %d: %d %d", i, at, err)
		}
		if c.err == api.OK {
			continue
		}
		_, e1 := StatesOf(c.x)
		_, e2 := GraphOf(c.x)
		_, e3 := BitsOf(c.x, make([]api.State, 9))
		_, e4 := FormulaOf(c.x, -1)
		_, e5 := Decoded(c.x, -1, nil)
		_, e6 := Blocked(c.x, nil, -1)
		_, e7 := Bounded(c.x, nil, -1)
		_, e8 := CheckBounded(c.x, nil, -1, api.ArenaAnswer{})
		_, e9 := Inductive(c.x, nil)
		_, e10 := Strengthened(c.x, nil)
		for k, err := range []api.Errno{e1, e2, e3, e4, e5, e6, e7, e8, e9, e10} {
			if err != c.err {
				t.Errorf("case %d, function %d: %d", i, k, err)
			}
		}
	}
}

func TestArgumentErrors(t *testing.T) {
	x := example(t)
	inv := expr(t, "x < 2")
	for _, depth := range []int{-1, 7} {
		_, e1 := FormulaOf(x, depth)
		_, e2 := Decoded(x, depth, nil)
		_, e3 := Blocked(x, inv, depth)
		_, e4 := Bounded(x, inv, depth)
		_, e5 := CheckBounded(x, inv, depth, api.ArenaAnswer{})
		if !slices.Equal([]api.Errno{e1, e2, e3, e4, e5}, slices.Repeat([]api.Errno{api.ErrRange}, 5)) {
			t.Error(depth, e1, e2, e3, e4, e5)
		}
	}
	for s, want := range map[string]api.Errno{"x": api.ErrType, "x' = x": api.ErrLevel} {
		e := expr(t, s)
		_, e1 := Blocked(x, e, -1)
		_, e2 := Bounded(x, e, -1)
		_, e3 := CheckBounded(x, e, -1, api.ArenaAnswer{})
		_, e4 := Inductive(x, e)
		_, e5 := Strengthened(x, e)
		if !slices.Equal([]api.Errno{e1, e2, e3, e4, e5}, slices.Repeat([]api.Errno{want}, 5)) {
			t.Error(s, e1, e2, e3, e4, e5)
		}
	}
	if _, err := Inductive(x, nil); err != api.ErrEmpty {
		t.Error(err)
	}
	if _, err := BitsOf(x, make([]api.State, 8)); err != api.ErrLarge {
		t.Error(err)
	}
	for _, at := range []api.State{nil, domain(t, "3"), domain(t, "0", "0"), {{Kind: 99}}} {
		if _, err := BitsOf(x, []api.State{at}); err != api.ErrMissing {
			t.Error(at, err)
		}
	}
	if l, err := BitsOf(x, nil); len(l) != 0 || err != api.OK {
		t.Error(l, err)
	}
	for _, c := range []struct {
		model []bool
		err   api.Errno
	}{{[]bool{true, false}, api.ErrShape}, {[]bool{true, true, false}, api.ErrForm}, {[]bool{false, false, false}, api.ErrForm}, {[]bool{false, true, false, true, true}, api.OK}} {
		if l, err := Decoded(x, 0, c.model); err != c.err || err == api.OK && !reflect.DeepEqual(l, states(t, "1")) {
			t.Error(c.model, l, err)
		}
	}
}

func TestCheckBounded(t *testing.T) {
	x := example(t)
	done := [][]int{{}}
	for i, c := range []struct {
		inv   string
		depth int
		a     api.ArenaAnswer
		at    int
		err   api.Errno
	}{
		{"x < 2", 2, api.ArenaAnswer{Trace: states(t, "0", "1", "2")}, 0, api.OK}, {"x < 2", 1, api.ArenaAnswer{Trace: states(t, "0", "1", "2")}, 0, api.ErrLarge}, {"x < 2", 2, api.ArenaAnswer{Trace: states(t, "0", "1", "3")}, 2, api.ErrMissing}, {"x < 2", 2, api.ArenaAnswer{Trace: states(t, "1", "2")}, 0, api.ErrProof}, {"x < 2", 2, api.ArenaAnswer{Trace: states(t, "0", "2")}, 1, api.ErrProof}, {"x < 2", 2, api.ArenaAnswer{Trace: states(t, "0", "1")}, 1, api.ErrProof},
		{"x = 5", 2, api.ArenaAnswer{Trace: states(t, "0", "1")}, 0, api.OK}, {"x < 2", 2, api.ArenaAnswer{Trace: states(t, "0"), Refutations: [][][]int{done}}, 0, api.ErrForm},
		{"x < 2", 2, api.ArenaAnswer{}, 0, api.ErrShape}, {"x < 2", 1, api.ArenaAnswer{Refutations: [][][]int{done, done}}, 0, api.OK}, {"x < 2", 0, api.ArenaAnswer{Refutations: [][][]int{done, done}}, 0, api.ErrShape}, {"x < 2", 1, api.ArenaAnswer{Refutations: [][][]int{done, nil}}, 1, api.ErrOpen}, {"x < 1", 1, api.ArenaAnswer{Refutations: [][][]int{done, done}}, 1, api.ErrProof},
	} {
		if at, err := CheckBounded(x, expr(t, c.inv), c.depth, c.a); at != c.at || err != c.err {
			t.Errorf("case %d: %d %d", i, at, err)
		}
	}
}

// chosen makes an arena of two variables whose steps are any pairs of numbers.
func chosen(t *testing.T, r *rand.Rand) api.ArenaSpec {
	next := "\\/ FALSE"
	for range 1 + r.Intn(4) {
		next += "\n\\/ (x = " + string(rune('0'+r.Intn(4))) + " /\\ x' = " + string(rune('0'+r.Intn(4))) + " /\\ y' = " + []string{"y", "(~y)", "TRUE"}[r.Intn(3)] + ")"
	}
	return arenaOf(t, "x \\in {"+string(rune('0'+r.Intn(5)))+"} /\\ y \\in {FALSE}", next, "xy", numbers(4), domain(t, "FALSE", "TRUE"))
}

// reached returns the least number of steps to a state that breaks an invariant, or None.
func reached(g api.Graph, good []int, most int) int {
	at := g.Init
	for d := range most + 1 {
		var after []int
		for _, i := range at {
			if !slices.Contains(good, i) {
				return d
			}
			for _, e := range g.Edges {
				if e.From == i {
					after = append(after, e.To)
				}
			}
		}
		slices.Sort(after)
		at = slices.Compact(after)
	}
	return api.None
}

func TestBothRoads(t *testing.T) {
	r := rand.New(rand.NewSource(30))
	for range 25 {
		x := chosen(t, r)
		inv := expr(t, []string{"x # 3", "x < 2 \\/ y", "TRUE", "y => x = 1"}[r.Intn(4)])
		g, _ := GraphOf(x)
		blocked, _ := Blocked(x, inv, 0)
		var good []int
		all, _ := StatesOf(x)
		for i, s := range all {
			bits, _ := BitsOf(x, []api.State{s})
			if slices.ContainsFunc(blocked, func(c []int) bool {
				return !slices.ContainsFunc(c, func(n int) bool { return !slices.Contains(bits, -n) })
			}) {
				good = append(good, i)
			}
		}
		depth := r.Intn(7)
		a, err := Bounded(x, inv, depth)
		want := reached(g, good, depth)
		if err != api.OK || len(a.Trace)-1 != want && (want != api.None || len(a.Trace) != 0) {
			t.Fatalf("%v %d: %v %d", g, depth, a, err)
		}
		if at, err := CheckBounded(x, inv, depth, a); at != 0 || err != api.OK {
			t.Error(at, err)
		}
		ind, _ := Inductive(x, inv)
		strong, _ := Strengthened(x, inv)
		isIn := func(i int) bool { return slices.Contains(strong, i) }
		if ind.Kept && want != api.None {
			t.Error("inductive, but broken")
		}
		for _, e := range g.Edges {
			if isIn(e.From) && !isIn(e.To) {
				t.Error(strong, e)
			}
		}
		if outside := slices.ContainsFunc(g.Init, func(i int) bool { return !isIn(i) }); outside != (reached(g, good, 8) != api.None) {
			t.Error(strong, g)
		}
	}
}

func TestExecutions(t *testing.T) {
	r := rand.New(rand.NewSource(31))
	for range 25 {
		x := chosen(t, r)
		g, _ := GraphOf(x)
		all, _ := StatesOf(x)
		depth := r.Intn(4)
		f, err := FormulaOf(x, depth)
		if err != api.OK {
			t.Fatal(err)
		}
		if v, _ := solver.Solve(f); !v.Refuted {
			trace, err := Decoded(x, depth, v.Model)
			if at, wrong := CheckBounded(x, expr(t, "FALSE"), depth, api.ArenaAnswer{Trace: trace}); err != api.OK || wrong != api.OK || at != 0 {
				t.Error(trace, err, wrong)
			}
		}
		for range 10 {
			path := []int{r.Intn(len(all))}
			if len(g.Init) > 0 && r.Intn(2) == 0 {
				path[0] = g.Init[0]
			}
			right := slices.Contains(g.Init, path[0])
			for len(path) <= depth {
				from, to := path[len(path)-1], r.Intn(len(all))
				for _, e := range g.Edges {
					if e.From == from && r.Intn(2) == 0 {
						to = e.To
					}
				}
				right = right && slices.Contains(g.Edges, api.Edge{From: from, To: to})
				path = append(path, to)
			}
			var trace []api.State
			for _, i := range path {
				trace = append(trace, all[i])
			}
			bits, _ := BitsOf(x, trace)
			if v, _, err := solver.SolveWith(f, bits); err != api.OK || v.Refuted == right {
				t.Errorf("%v %v: %v %d", g, path, v.Refuted, err)
			}
		}
	}
}

func TestLimits(t *testing.T) {
	x := arenaOf(t, "x \\in 0 .. 7 /\\ y = 0", "y' = 3 - y", "xy", numbers(8), numbers(4))
	f, err := FormulaOf(x, 6)
	if i, wrong := solver.CheckClauses(f); err != api.OK || i != 0 || wrong != api.OK || refuted(t, f) {
		t.Error(f.Vars, len(f.Lists), err, wrong)
	}
	one := arenaOf(t, "x = 0", "x' = x", "x", numbers(1))
	if bits, err := BitsOf(one, states(t, "0", "0")); !slices.Equal(bits, []int{1, 2}) || err != api.OK {
		t.Error(bits, err)
	}
	none := arenaOf(t, "x = 5", "x' = x", "x", numbers(1))
	for depth := range 3 {
		if f, _ := FormulaOf(none, depth); !refuted(t, f) {
			t.Error(depth)
		}
	}
}
