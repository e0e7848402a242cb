package automata

import (
	"math/rand"
	"slices"
	"strings"
	"testing"

	"stutter/api"
	"stutter/lasso"
)

func read(t *testing.T, s string) api.Formula {
	t.Helper()
	f, at, err := lasso.ParseFormula(s)
	if err != api.OK {
		t.Fatalf("%s: %d %d", s, at, err)
	}
	return f
}

func word(prefix []int, loop ...int) api.Word { return api.Word{Prefix: prefix, Loop: loop} }

func example() api.Automaton {
	return api.Automaton{States: 2, Init: []int{0}, Edges: []api.AutomatonEdge{{}, {From: 0, To: 1, Need: 1}, {From: 1, To: 1, Need: 1}}, Accept: [][]int{{1}}}
}

func TestCheckAutomaton(t *testing.T) {
	for i, c := range []struct {
		change func(*api.Automaton)
		at     int
		err    api.Errno
	}{
		{func(*api.Automaton) {}, 0, api.OK}, {func(a *api.Automaton) { *a = api.Automaton{} }, 0, api.OK}, {func(a *api.Automaton) { a.States = 301 }, 0, api.ErrRange}, {func(a *api.Automaton) { a.States = -1 }, 0, api.ErrRange}, {func(a *api.Automaton) { a.States = 300 }, 0, api.OK}, {func(a *api.Automaton) { a.Edges = make([]api.AutomatonEdge, 6001) }, 0, api.ErrLarge}, {func(a *api.Automaton) { a.Accept = make([][]int, 9) }, 0, api.ErrLarge},
		{func(a *api.Automaton) { a.Init = []int{0, 2} }, 1, api.ErrRange}, {func(a *api.Automaton) { a.Init = []int{1, 0} }, 1, api.ErrOrder}, {func(a *api.Automaton) { a.Init = []int{1, 1} }, 1, api.ErrOrder}, {func(a *api.Automaton) { a.Edges[1].To = 2 }, 1, api.ErrRange}, {func(a *api.Automaton) { a.Edges[2].From = -1 }, 2, api.ErrRange}, {func(a *api.Automaton) { a.Edges[2].Need = 4096 }, 2, api.ErrRange}, {func(a *api.Automaton) { a.Edges[2].Never = -1 }, 2, api.ErrRange},
		{func(a *api.Automaton) { a.Accept = [][]int{{0}, {1, 0}} }, 1, api.ErrOrder}, {func(a *api.Automaton) { a.Accept = [][]int{{0}, {}, {2}} }, 2, api.ErrRange},
	} {
		a := example()
		c.change(&a)
		if at, err := CheckAutomaton(a); at != c.at || err != c.err {
			t.Errorf("%d: %d %d", i, at, err)
		}
		if c.err == api.OK {
			continue
		}
		_, e1 := Accepts(a, api.Word{})
		_, e2 := RunOf(a, api.Word{})
		at, e3 := CheckRun(a, api.Word{}, api.Lasso{})
		_, e4 := WordIn(a)
		_, e5 := Both(example(), a)
		_, e6 := OneSet(a)
		_, _, e7 := Trimmed(a)
		for _, e := range []api.Errno{e1, e2, e3, e4, e5, e6, e7} {
			if e != c.err || at != 0 {
				t.Errorf("%d: %d", i, e)
			}
		}
	}
}

func TestRuns(t *testing.T) {
	a := example()
	for i, c := range []struct {
		w    api.Word
		want bool
	}{{word(nil, 1), true}, {word(nil, 1, 0), false}, {word([]int{0}, 1), true}, {word([]int{0, 1, 0}, 3, 1), true}, {word(nil, 0), false}} {
		if is, err := Accepts(a, c.w); is != c.want || err != api.OK {
			t.Errorf("%d: %v %d", i, is, err)
		}
		run, err := RunOf(a, c.w)
		if !c.want {
			if err != api.ErrNone {
				t.Errorf("%d: %d", i, err)
			}
			continue
		}
		if at, err2 := CheckRun(a, c.w, run); err != api.OK || err2 != api.OK {
			t.Errorf("%d: %v %d %d", i, run, at, err2)
		}
	}
	w := word([]int{0}, 1)
	for i, c := range []struct {
		run api.Lasso
		at  int
		err api.Errno
	}{{api.Lasso{Prefix: []int{0, 0}, Loop: []int{1}}, 0, api.OK}, {api.Lasso{Prefix: []int{0, 0}}, 0, api.ErrEmpty}, {api.Lasso{Prefix: make([]int, 20000), Loop: []int{1}}, 0, api.ErrLarge}, {api.Lasso{Loop: []int{0}}, 0, api.ErrShape}, {api.Lasso{Prefix: []int{0, 0}, Loop: []int{2}}, 2, api.ErrRange}, {api.Lasso{Prefix: []int{1, 1}, Loop: []int{1}}, 0, api.ErrState}, {api.Lasso{Prefix: []int{0}, Loop: []int{1}}, 0, api.ErrMissing}, {api.Lasso{Prefix: []int{0, 0}, Loop: []int{1, 0}}, 2, api.ErrMissing}, {api.Lasso{Prefix: []int{0, 0}, Loop: []int{0}}, 0, api.ErrNone}} {
		if at, err := CheckRun(a, w, c.run); at != c.at || err != c.err {
			t.Errorf("%d: %d %d", i, at, err)
		}
	}
	if _, err := CheckRun(a, word([]int{0}, 1, 1), api.Lasso{Prefix: []int{0, 0}, Loop: []int{1, 1}}); err != api.ErrShape {
		t.Error(err)
	}
	_, e1 := Accepts(a, api.Word{})
	_, e2 := RunOf(a, word(nil, 4096))
	_, e3 := CheckRun(a, api.Word{}, api.Lasso{})
	if e1 != api.ErrEmpty || e2 != api.ErrRange || e3 != api.ErrEmpty {
		t.Error(e1, e2, e3)
	}
	a.Accept = [][]int{{}}
	if is, _ := Accepts(a, w); is {
		t.Error("a set without states")
	}
	if is, _ := Accepts(api.Automaton{}, w); is {
		t.Error("no states")
	}
}

func TestWords(t *testing.T) {
	w, err := WordIn(example())
	if is, _ := Accepts(example(), w); !is || err != api.OK {
		t.Error(w, err)
	}
	a := example()
	a.Edges[2].Never = 1
	if _, err := WordIn(a); err != api.ErrNone {
		t.Error(err)
	}
	ring := api.Automaton{States: 20, Init: []int{0}, Accept: [][]int{{19}, {18}}}
	for i := range 20 {
		ring.Edges = append(ring.Edges, api.AutomatonEdge{From: i, To: (i + 1) % 20, Need: i})
	}
	w, err = WordIn(ring)
	if is, _ := Accepts(ring, w); !is || err != api.OK || len(w.Prefix)+len(w.Loop) > 60 {
		t.Error(w, err)
	}
	for s, want := range map[string]api.Errno{"(p0 & !p0)": api.ErrNone, "([]p0 & <>!p0)": api.ErrNone, "([]<>p0 & []<>!p0)": api.OK, "!true": api.ErrNone, "true": api.OK, "((p0 ~> p1) & (p1 U !p0))": api.OK} {
		f := read(t, s)
		w, err := IsModel(f)
		if err != want {
			t.Errorf("%s: %d", s, err)
		}
		if is, _ := lasso.HoldsOn(f, w); err == api.OK && !is {
			t.Errorf("%s: %v", s, w)
		}
	}
	if _, err := IsModel(nil); err != api.ErrEmpty {
		t.Error(err)
	}
	if _, err := AutomatonOf(nil); err != api.ErrEmpty {
		t.Error(err)
	}
}

func TestTrimmed(t *testing.T) {
	a := example()
	a.States = 4
	a.Edges = append(a.Edges, api.AutomatonEdge{From: 0, To: 2}, api.AutomatonEdge{From: 3, To: 1}, api.AutomatonEdge{From: 1, To: 0, Need: 2, Never: 2})
	a.Accept = [][]int{{1, 2}}
	b, old, err := Trimmed(a)
	want := []api.AutomatonEdge{{}, {From: 0, To: 1, Need: 1}, {From: 1, To: 1, Need: 1}, {From: 1, To: 0, Need: 2, Never: 2}}
	if b.States != 2 || !slices.Equal(old, []int{0, 1}) || !slices.Equal(b.Edges, want) || !slices.Equal(b.Accept[0], []int{1}) || !slices.Equal(b.Init, []int{0}) || err != api.OK {
		t.Error(b, old, err)
	}
	b, old, err = Trimmed(api.Automaton{States: 2, Init: []int{1}, Edges: []api.AutomatonEdge{{From: 1, To: 0}}})
	if b.States != 0 || len(old) != 0 || len(b.Edges) != 0 || err != api.OK {
		t.Error(b, err)
	}
}

func TestLimits(t *testing.T) {
	four := "(((p0 ~> p1) & (p2 ~> p3)) & ((p4 ~> p5) & (p6 ~> p7)))"
	a, err := AutomatonOf(read(t, four))
	if err != api.OK || a.States > 300 || len(a.Edges) > 6000 {
		t.Error(a.States, len(a.Edges), err)
	}
	if a, err := AutomatonOf(read(t, "!"+four)); err != api.OK || a.States > 300 {
		t.Error(err)
	}
	if _, err := AutomatonOf(read(t, "((((p0 | p1) ~> (p2 & p3)) & ((p4 | p5) ~> (p6 & p7))) & (((p8 | p9) ~> (p10 & p11)) & ((p1 | p3) ~> (p5 & p7))))")); err != api.OK {
		t.Error(err)
	}
	many := strings.Repeat("(<>p0 & ", 7) + "(p0 ~> p1)" + strings.Repeat(")", 7)
	if _, err := AutomatonOf(read(t, many)); err != api.OK && err != api.ErrLarge {
		t.Error(err)
	}
}

func some(r *rand.Rand, depth int, left *int) string {
	if depth == 0 {
		return []string{"p0", "p1", "true"}[r.Intn(3)]
	}
	k := r.Intn(9)
	if *left == 0 && (k < 4) {
		k = 4 + r.Intn(5)
	}
	if k < 4 {
		*left--
	}
	a, b := some(r, depth-1, left), some(r, r.Intn(depth), left)
	return []string{"[]" + a, "<>" + a, "(" + a + " ~> " + b + ")", "(" + b + " U " + a + ")", "!" + a, "(" + a + " & " + b + ")", "(" + a + " | " + b + ")", "(" + b + " -> " + a + ")", a}[k]
}

func TestByChance(t *testing.T) {
	r := rand.New(rand.NewSource(4))
	letters := func(n int) (out []int) {
		for range n {
			out = append(out, r.Intn(4))
		}
		return out
	}
	var before api.Automaton
	var beforeF api.Formula
	for range 400 {
		left := 4
		s := some(r, 4, &left)
		f := read(t, s)
		a, err := AutomatonOf(f)
		if err != api.OK {
			t.Fatalf("%s: %d", s, err)
		}
		if _, err := CheckAutomaton(a); err != api.OK {
			t.Fatalf("%s: %d", s, err)
		}
		trimmed, _, _ := Trimmed(a)
		one, errOne := OneSet(a)
		pair, errBoth := Both(a, before)
		if _, err := WordIn(a); (err == api.ErrNone) != (trimmed.States == 0) {
			t.Fatalf("%s: %d", s, err)
		}
		for range 12 {
			w := word(letters(r.Intn(4)), letters(1+r.Intn(4))...)
			holds, _ := lasso.HoldsOn(f, w)
			is, _ := Accepts(a, w)
			run, err := RunOf(a, w)
			_, right := CheckRun(a, w, run)
			short, _ := Accepts(trimmed, w)
			if is != holds || (err == api.OK) != holds || holds && right != api.OK || short != holds {
				t.Fatalf("%s on %v: %v %v %d %d %v", s, w, holds, is, err, right, short)
			}
			if x, _ := Accepts(one, w); errOne == api.OK && (x != holds || len(one.Accept) != 1) {
				t.Fatalf("%s on %v: one set %v", s, w, x)
			}
			if x, _ := Accepts(pair, w); errBoth == api.OK && beforeF != nil {
				if other, _ := lasso.HoldsOn(beforeF, w); x != (holds && other) {
					t.Fatalf("%s on %v: both %v", s, w, x)
				}
			}
		}
		before, beforeF = a, f
	}
}
