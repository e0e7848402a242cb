package solver

import (
	"math"
	"math/rand"
	"reflect"
	"slices"
	"strings"
	"testing"

	"stutter/api"
)

func example() api.Clauses {
	return api.Clauses{Vars: 3, Lists: [][]int{{1, 2}, {-1, 2}, {-2, 3}}}
}

func contradiction() api.Clauses {
	f := example()
	f.Lists = append(f.Lists, []int{-3})
	return f
}

func long(from, n int) []int {
	c := make([]int, n)
	for i := range c {
		c[i] = from + i
	}
	return c
}

type formulaCase struct {
	f   api.Clauses
	at  int
	err api.Errno
}

func formulaCases() []formulaCase {
	return []formulaCase{
		{api.Clauses{}, 0, api.OK}, {example(), 0, api.OK},
		{api.Clauses{Vars: -1}, 0, api.ErrRange}, {api.Clauses{Vars: 401}, 0, api.ErrRange}, {api.Clauses{Vars: 400}, 0, api.OK},
		{api.Clauses{Lists: make([][]int, 6000)}, 0, api.OK}, {api.Clauses{Lists: make([][]int, 6001)}, 0, api.ErrLarge},
		{api.Clauses{Vars: 50, Lists: [][]int{{1}, long(1, 40)}}, 0, api.OK}, {api.Clauses{Vars: 50, Lists: [][]int{{1}, long(1, 41)}}, 1, api.ErrLarge},
		{api.Clauses{Vars: 2, Lists: [][]int{{1}, {0}}}, 1, api.ErrRange}, {api.Clauses{Vars: 2, Lists: [][]int{{1, 3}}}, 0, api.ErrRange}, {api.Clauses{Vars: 2, Lists: [][]int{{}, {-3}}}, 1, api.ErrRange},
		{api.Clauses{Vars: 2, Lists: [][]int{{math.MinInt}}}, 0, api.ErrRange}, {api.Clauses{Vars: 2, Lists: [][]int{{2}, {2, 1}}}, 1, api.ErrOrder}, {api.Clauses{Vars: 2, Lists: [][]int{{1, -1}}}, 0, api.ErrOrder}, {api.Clauses{Vars: 2, Lists: [][]int{{2, 1, 9}}}, 0, api.ErrOrder},
	}
}

func TestFormulas(t *testing.T) {
	for i, c := range formulaCases() {
		if at, err := CheckClauses(c.f); at != c.at || err != c.err {
			t.Errorf("case %d: %d, %d", i, at, err)
		}
		if c.err == api.OK {
			continue
		}
		_, _, satisfies := Satisfies(c.f, nil)
		_, _, propagated := Propagated(c.f, []int{0})
		_, follows := Follows(c.f, []int{0})
		_, solve := Solve(c.f)
		_, _, with := SolveWith(c.f, []int{0})
		_, verdict := CheckVerdict(c.f, api.Verdict{Refuted: true, Model: make([]bool, 1)})
		_, core := CoreOf(c.f)
		_, least := LeastModel(c.f)
		_, count := CountOf(c.f)
		_, text := FormatClauses(c.f)
		for k, err := range []api.Errno{satisfies, propagated, follows, solve, with, verdict, core, least, count, text} {
			if err != c.err {
				t.Errorf("case %d, function %d: %d", i, k, err)
			}
		}
	}
}

func TestSatisfies(t *testing.T) {
	for _, c := range []struct {
		f     api.Clauses
		model []bool
		holds bool
		at    int
		err   api.Errno
	}{
		{example(), []bool{false, true, true}, true, 0, api.OK}, {example(), []bool{false, false, true}, false, 0, api.OK}, {example(), []bool{true, true, false}, false, 2, api.OK},
		{example(), []bool{true}, false, 0, api.ErrShape}, {api.Clauses{}, nil, true, 0, api.OK}, {api.Clauses{Lists: [][]int{{}}}, nil, false, 0, api.OK},
	} {
		if holds, at, err := Satisfies(c.f, c.model); holds != c.holds || at != c.at || err != c.err {
			t.Errorf("%v %v: %v %d %d", c.f, c.model, holds, at, err)
		}
	}
}

func TestPropagated(t *testing.T) {
	for _, c := range []struct {
		f        api.Clauses
		assumed  []int
		known    []int
		conflict int
		err      api.Errno
	}{
		{example(), []int{-3}, []int{1, -2, -3}, 1, api.OK}, {example(), nil, nil, api.None, api.OK}, {example(), []int{2}, []int{2, 3}, api.None, api.OK}, {example(), []int{2, 2}, []int{2, 3}, api.None, api.OK},
		{example(), []int{-1, -2}, []int{-1, -2}, 0, api.OK}, {api.Clauses{Vars: 2, Lists: [][]int{{1}, {2}, {}}}, nil, nil, 2, api.OK},
		{api.Clauses{Vars: 2, Lists: [][]int{{1}, {-1}, {2}}}, nil, []int{1}, 1, api.OK}, {api.Clauses{Vars: 2, Lists: [][]int{{1}, {2}, {-1}}}, nil, []int{1}, 2, api.OK},
		{example(), []int{4}, nil, 0, api.ErrRange}, {example(), []int{0}, nil, 0, api.ErrRange}, {example(), []int{1, -1, 7}, nil, 0, api.ErrClash}, {example(), make([]int, 401), nil, 0, api.ErrLarge}, {example(), []int{math.MinInt}, nil, 0, api.ErrRange},
	} {
		known, conflict, err := Propagated(c.f, c.assumed)
		if !slices.Equal(known, c.known) || conflict != c.conflict || err != c.err {
			t.Errorf("%v %v: %v %d %d", c.f, c.assumed, known, conflict, err)
		}
	}
}

func TestFollows(t *testing.T) {
	for _, c := range []struct {
		clause []int
		is     bool
		err    api.Errno
	}{{[]int{3}, true, api.OK}, {nil, false, api.OK}, {[]int{1}, false, api.OK}, {[]int{1, 2}, true, api.OK}, {[]int{-1, 3}, true, api.OK}, {[]int{4}, false, api.ErrRange}, {[]int{2, 1}, false, api.ErrOrder}, {make([]int, 41), false, api.ErrLarge}} {
		if is, err := Follows(example(), c.clause); is != c.is || err != c.err {
			t.Errorf("%v: %v %d", c.clause, is, err)
		}
	}
}

func TestResolvent(t *testing.T) {
	for _, c := range []struct {
		a, b []int
		v    int
		want []int
		err  api.Errno
	}{
		{[]int{1, 2}, []int{-1, 3}, 1, []int{2, 3}, api.OK}, {[]int{2, 9}, []int{1, -2, 9}, 2, []int{1, 9}, api.OK}, {[]int{1}, []int{-1}, 1, nil, api.OK}, {[]int{400}, []int{-400}, 400, nil, api.OK},
		{[]int{0}, nil, 0, nil, api.ErrRange}, {nil, nil, 401, nil, api.ErrRange}, {[]int{401}, []int{2, 1}, 1, nil, api.ErrRange}, {[]int{1}, []int{2, 1}, 1, nil, api.ErrOrder}, {make([]int, 41), nil, 1, nil, api.ErrLarge},
		{[]int{-1}, []int{-1}, 1, nil, api.ErrMissing}, {[]int{1}, []int{1}, 1, nil, api.ErrMissing}, {[]int{1, 2}, []int{-1, -2}, 1, nil, api.ErrClash}, {long(1, 22), append([]int{-1}, long(30, 20)...), 1, nil, api.ErrLarge}, {long(1, 21), append([]int{-1}, long(30, 20)...), 1, slices.Concat(long(2, 20), long(30, 20)), api.OK},
	} {
		if got, err := Resolvent(c.a, c.b, c.v); !slices.Equal(got, c.want) || err != c.err {
			t.Errorf("%v %v %d: %v %d", c.a, c.b, c.v, got, err)
		}
	}
}

func TestCheckVerdict(t *testing.T) {
	bad := contradiction()
	for i, c := range []struct {
		f   api.Clauses
		v   api.Verdict
		at  int
		err api.Errno
	}{
		{bad, api.Verdict{Refuted: true, Learned: [][]int{{}}}, 0, api.OK}, {bad, api.Verdict{Refuted: true, Learned: [][]int{{2}, {}, {1}, nil}}, 0, api.OK},
		{example(), api.Verdict{Model: []bool{true, true, true}}, 0, api.OK}, {example(), api.Verdict{Model: []bool{true, true, false}}, 2, api.ErrBroken}, {example(), api.Verdict{}, 0, api.ErrShape}, {api.Clauses{}, api.Verdict{}, 0, api.OK},
		{bad, api.Verdict{Refuted: true, Model: []bool{true}}, 0, api.ErrForm}, {bad, api.Verdict{Learned: [][]int{{}}}, 0, api.ErrForm},
		{bad, api.Verdict{Refuted: true}, 0, api.ErrOpen}, {bad, api.Verdict{Refuted: true, Learned: [][]int{{}, {1}}}, 0, api.ErrOpen}, {example(), api.Verdict{Refuted: true, Learned: [][]int{{3}, {}}}, 1, api.ErrProof}, {example(), api.Verdict{Refuted: true, Learned: [][]int{{3}, {9}}}, 1, api.ErrRange}, {example(), api.Verdict{Refuted: true, Learned: [][]int{{1}, {9}}}, 0, api.ErrProof},
		{bad, api.Verdict{Refuted: true, Learned: make([][]int, 20000)}, 0, api.OK}, {bad, api.Verdict{Refuted: true, Learned: make([][]int, 20001)}, 0, api.ErrLarge},
	} {
		if at, err := CheckVerdict(c.f, c.v); at != c.at || err != c.err {
			t.Errorf("case %d: %d %d", i, at, err)
		}
	}
}

func TestSmall(t *testing.T) {
	if n, err := CountOf(example()); n != 2 || err != api.OK {
		t.Error(n, err)
	}
	if m, err := LeastModel(example()); !slices.Equal(m, []bool{false, true, true}) || err != api.OK {
		t.Error(m, err)
	}
	if _, err := LeastModel(contradiction()); err != api.ErrNone {
		t.Error(err)
	}
	if _, err := CoreOf(example()); err != api.ErrNone {
		t.Error(err)
	}
	for _, c := range []struct {
		f    api.Clauses
		want []int
	}{{contradiction(), []int{0, 1, 2, 3}}, {api.Clauses{Vars: 1, Lists: [][]int{{}, {1}, {-1}}}, []int{0}}, {api.Clauses{Vars: 1, Lists: [][]int{{1}, {-1}, {}}}, []int{0, 1}}, {api.Clauses{Lists: [][]int{{}, {}}}, []int{0}}} {
		if got, err := CoreOf(c.f); !slices.Equal(got, c.want) || err != api.OK {
			t.Errorf("%v: %v %d", c.f, got, err)
		}
	}
	for n, f := range map[int]api.Clauses{1: {}, 4096: {Vars: 12}, 0: {Vars: 2, Lists: [][]int{{}}}} {
		if got, err := CountOf(f); got != n || err != api.OK {
			t.Error(f, got, err)
		}
	}
	if _, err := CountOf(api.Clauses{Vars: 13}); err != api.ErrLarge {
		t.Error(err)
	}
	_, least := LeastModel(api.Clauses{Vars: 15})
	_, core := CoreOf(api.Clauses{Vars: 15})
	if m, err := LeastModel(api.Clauses{Vars: 14}); len(m) != 14 || slices.Contains(m, true) || err != api.OK || least != api.ErrLarge || core != api.ErrLarge {
		t.Error(m, err, least, core)
	}
}

func TestStrings(t *testing.T) {
	if s, err := FormatClauses(example()); s != "p cnf 3 3;1 2 0;-1 2 0;-2 3 0" || err != api.OK {
		t.Error(s, err)
	}
	big := api.Clauses{Vars: 400, Lists: slices.Repeat([][]int{long(300, 40)}, 130)}
	if _, err := FormatClauses(big); err != api.ErrLarge {
		t.Error(err)
	}
	for s, want := range map[string]api.Errno{
		"p cnf 0 0": api.OK, "p cnf 0 1;0": api.OK, "p cnf 2 1;-1 2 0": api.OK, "": api.ErrSyntax, "p cnf 0 0;": api.ErrSyntax, "p cnf 0 1": api.ErrSyntax, "p cnf 2 1;1 2": api.ErrSyntax, "p cnf 2 1;1 0 2 0": api.ErrSyntax, "p cnf 2 1;-0 0": api.ErrSyntax, "p cnf 2 1;-0": api.ErrSyntax, "p cnf 2 1;01 0": api.ErrSyntax,
		"p cnf 02 0": api.ErrSyntax, "p cnf -2 0": api.ErrSyntax, "p cnf 2 1;+1 0": api.ErrSyntax, "p cnf 2 1;--1 0": api.ErrSyntax, "p  cnf 2 0": api.ErrSyntax, "p cnf 2 1; 0": api.ErrSyntax, "p cnf 2 1;1  0": api.ErrSyntax, "p cnf 2 1;1 0 ": api.ErrSyntax, "p cnf 10000 0": api.ErrSyntax, "p cnf 9999 0": api.ErrRange, "p cnf 2 1;3 0": api.ErrRange, "p cnf 2 1;10000 0": api.ErrSyntax, "p cnf 2 1;2 1 0": api.ErrOrder,
		strings.Repeat("x", 20000): api.ErrSyntax, strings.Repeat("x", 20001): api.ErrLarge,
	} {
		if _, err := ParseClauses(s); err != want {
			t.Errorf("%.30q: %d", s, err)
		}
	}
}

// some makes a formula with clauses of about three literals; a few are shorter.
func some(r *rand.Rand, vars, count int) api.Clauses {
	f := api.Clauses{Vars: vars}
	for range count {
		byVar := map[int]int{}
		for range 1 + r.Intn(3) + r.Intn(2) {
			v := 1 + r.Intn(vars)
			byVar[v] = v * (1 - 2*r.Intn(2))
		}
		c := []int{}
		for v := 1; v <= vars; v++ {
			if n := byVar[v]; n != 0 {
				c = append(c, n)
			}
		}
		f.Lists = append(f.Lists, c)
	}
	return f
}

func modelsOf(f api.Clauses) [][]bool {
	var res [][]bool
	for m := range 1 << f.Vars {
		model := make([]bool, f.Vars)
		for v := range model {
			model[v] = m>>(f.Vars-1-v)&1 == 1
		}
		if holds, _, _ := Satisfies(f, model); holds {
			res = append(res, model)
		}
	}
	return res
}

func withUnits(f api.Clauses, units []int) api.Clauses {
	res := api.Clauses{Vars: f.Vars, Lists: slices.Clone(f.Lists)}
	for _, n := range units {
		res.Lists = append(res.Lists, []int{n})
	}
	return res
}

func TestVerdictsOfSmallFormulas(t *testing.T) {
	r := rand.New(rand.NewSource(29))
	for range 400 {
		vars := 1 + r.Intn(6)
		f := some(r, vars, r.Intn(4*vars+1))
		models := modelsOf(f)
		v, err := Solve(f)
		if at, wrong := CheckVerdict(f, v); err != api.OK || wrong != api.OK || at != 0 || v.Refuted != (len(models) == 0) {
			t.Fatalf("%v: %v %d %d", f, v, err, wrong)
		}
		if n, _ := CountOf(f); n != len(models) {
			t.Errorf("%v: %d models", f, n)
		}
		if least, err := LeastModel(f); len(models) > 0 && !slices.Equal(least, models[0]) || (err == api.OK) != (len(models) > 0) {
			t.Errorf("%v: %v", f, least)
		}
		checkCore(t, f)
		checkBack(t, f)
	}
}

func checkCore(t *testing.T, f api.Clauses) {
	kept := make([]int, len(f.Lists))
	for i := range kept {
		kept[i] = i
	}
	part := func(l []int) api.Clauses {
		res := api.Clauses{Vars: f.Vars}
		for _, i := range l {
			res.Lists = append(res.Lists, f.Lists[i])
		}
		return res
	}
	for i := len(kept) - 1; i >= 0; i-- {
		if rest := slices.Delete(slices.Clone(kept), i, i+1); len(modelsOf(part(rest))) == 0 {
			kept = rest
		}
	}
	core, err := CoreOf(f)
	if len(modelsOf(f)) > 0 {
		if err != api.ErrNone {
			t.Errorf("%v: %d", f, err)
		}
	} else if !slices.Equal(core, kept) || err != api.OK {
		t.Errorf("%v: core %v, not %v", f, core, kept)
	}
}

func checkBack(t *testing.T, f api.Clauses) {
	s, _ := FormatClauses(f)
	g, err := ParseClauses(s)
	if again, _ := FormatClauses(g); err != api.OK || again != s || g.Vars != f.Vars || !slices.EqualFunc(f.Lists, g.Lists, slices.Equal) {
		t.Errorf("%q: %v", s, g)
	}
}

func assumptions(r *rand.Rand, vars int) []int {
	var res []int
	for range r.Intn(4) {
		if n := (1 + r.Intn(vars)) * (1 - 2*r.Intn(2)); !slices.Contains(res, -n) {
			res = append(res, n)
		}
	}
	return res
}

func TestAssumptions(t *testing.T) {
	if v, l, err := SolveWith(example(), []int{-3, 1}); !v.Refuted || !slices.Equal(l, []int{-3}) || err != api.OK {
		t.Error(v, l, err)
	}
	if v, l, err := SolveWith(contradiction(), []int{1, 2}); !v.Refuted || len(l) != 0 || err != api.OK {
		t.Error(v, l, err)
	}
	for want, assumed := range map[api.Errno][]int{api.ErrClash: {1, -1}, api.ErrRange: {9}, api.ErrLarge: make([]int, 401)} {
		if _, _, err := SolveWith(example(), assumed); err != want {
			t.Error(assumed, err)
		}
	}
	r := rand.New(rand.NewSource(30))
	for range 300 {
		vars := 1 + r.Intn(6)
		f := some(r, vars, r.Intn(3*vars+1))
		assumed := assumptions(r, vars)
		models := modelsOf(withUnits(f, assumed))
		v, failing, err := SolveWith(f, assumed)
		if err != api.OK || v.Refuted != (len(models) == 0) {
			t.Fatalf("%v %v: %v %d", f, assumed, v, err)
		}
		shown := failing
		if !v.Refuted {
			shown = assumed
		}
		if at, err := CheckVerdict(withUnits(f, shown), v); at != 0 || err != api.OK {
			t.Errorf("%v %v: %v %v", f, assumed, v, failing)
		}
		for i := range failing {
			if rest := slices.Delete(slices.Clone(failing), i, i+1); len(modelsOf(withUnits(f, rest))) == 0 {
				t.Errorf("%v: %v is too much", f, failing)
			}
		}
		checkPropagation(t, f, assumed, models)
	}
}

func TestManyAssumptions(t *testing.T) {
	f := example()
	f.Vars = 400
	assumed := append(long(4, 397), -3)
	v, l, err := SolveWith(f, assumed)
	if at, wrong := CheckVerdict(withUnits(f, l), v); !v.Refuted || !slices.Equal(l, []int{-3}) || at != 0 || err != api.OK || wrong != api.OK {
		t.Error(v, l, err, wrong)
	}
	hard := pigeons(7, 6)
	hard.Vars = 400
	if v, l, err := SolveWith(hard, long(43, 358)); err != api.ErrFuel && (err != api.OK || !v.Refuted || len(l) != 0) {
		t.Error(l, err)
	}
}

func checkPropagation(t *testing.T, f api.Clauses, assumed []int, models [][]bool) {
	known, conflict, _ := Propagated(f, assumed)
	if conflict != api.None && len(models) > 0 {
		t.Errorf("%v %v: conflict %d", f, assumed, conflict)
	}
	for _, m := range models {
		for _, n := range known {
			if m[max(n, -n)-1] != (n > 0) {
				t.Errorf("%v %v: %d", f, assumed, n)
			}
		}
	}
	for k := range assumed {
		fewer, before, _ := Propagated(f, assumed[:k])
		lost := slices.ContainsFunc(fewer, func(n int) bool { return !slices.Contains(known, n) })
		if before == api.None && conflict == api.None && lost {
			t.Errorf("%v %v: %v, not %v", f, assumed, known, fewer)
		}
		clause := []int{}
		for _, n := range assumed[:k] {
			if !slices.Contains(clause, -n) {
				clause = append(clause, -n)
			}
		}
		if follows, err := Follows(f, sorted(clause)); err == api.OK && follows != (before != api.None) {
			t.Errorf("%v %v: follows %v", f, clause, follows)
		}
	}
}

func TestResolvents(t *testing.T) {
	r := rand.New(rand.NewSource(31))
	for range 500 {
		f := some(r, 4, 2)
		v := 1 + r.Intn(4)
		c, err := Resolvent(f.Lists[0], f.Lists[1], v)
		if err != api.OK {
			continue
		}
		if follows, _ := Follows(f, c); !follows {
			t.Errorf("%v: %v", f, c)
		}
		for _, m := range modelsOf(f) {
			if holds, _, _ := Satisfies(api.Clauses{Vars: 4, Lists: [][]int{c}}, m); !holds {
				t.Errorf("%v: %v", f, c)
			}
		}
	}
}

// everySign excludes every model of the first variables, each by a clause of its own.
func everySign(vars int) api.Clauses {
	f := api.Clauses{Vars: vars}
	for m := range 1 << vars {
		c := make([]int, vars)
		for v := range c {
			c[v] = (v + 1) * (1 - 2*(m>>v&1))
		}
		f.Lists = append(f.Lists, c)
	}
	return f
}

// pigeons says that each of some birds has one of fewer holes, alone.
func pigeons(birds, holes int) api.Clauses {
	f := api.Clauses{Vars: birds * holes}
	for b := range birds {
		f.Lists = append(f.Lists, long(1+b*holes, holes))
		for c := range b {
			for h := range holes {
				f.Lists = append(f.Lists, []int{-(1 + c*holes + h), -(1 + b*holes + h)})
			}
		}
	}
	return f
}

func TestLargerFormulas(t *testing.T) {
	r := rand.New(rand.NewSource(32))
	formulas := []api.Clauses{everySign(12), pigeons(4, 3), pigeons(6, 5)}
	for range 30 {
		formulas = append(formulas, some(r, 14, 50), some(r, 14, 70), some(r, 80, 200), some(r, 400, 900))
	}
	for _, f := range formulas {
		v, err := Solve(f)
		if err == api.ErrFuel && f.Vars > api.SureSolverVars {
			continue
		}
		if at, wrong := CheckVerdict(f, v); err != api.OK || at != 0 || wrong != api.OK {
			t.Fatalf("%d variables: %d %d %d", f.Vars, err, at, wrong)
		}
	}
}

func TestNothingIsChanged(t *testing.T) {
	f, before := contradiction(), contradiction()
	assumed := []int{3, 1}
	known, _, _ := Propagated(f, assumed)
	v, failing, _ := SolveWith(f, assumed)
	w, _ := Solve(f)
	for _, l := range [][]int{known, failing, v.Learned[0], w.Learned[0]} {
		for i := range l {
			l[i] = 9
		}
	}
	if !reflect.DeepEqual(f, before) || !slices.Equal(assumed, []int{3, 1}) {
		t.Error(f, assumed)
	}
}
