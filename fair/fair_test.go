package fair

import (
	"math/rand"
	"slices"
	"testing"

	"stutter/api"
	"stutter/lasso"
)

func read(t *testing.T, s string) api.Formula {
	t.Helper()
	f, at, err := lasso.ParseFormula(s)
	if err != api.OK {
		t.Fatalf("%s: %d %d", s, at, err)
	}
	return f
}

func example() api.Labelled {
	return api.Labelled{Graph: api.Graph{States: 3, Init: []int{0}, Edges: []api.Edge{{From: 0, To: 1}, {From: 0, To: 2, Action: 1}, {From: 1, To: 0}}}, Labels: []int{0, 0, 1}, Steps: []int{-1, -1}, Enabled: []int{-1, -1}}
}

func TestComponents(t *testing.T) {
	x := example()
	if l, err := ComponentsOf(x.Graph); len(l) != 2 || !slices.Equal(l[0], []int{0, 1}) || !slices.Equal(l[1], []int{2}) || err != api.OK {
		t.Error(l, err)
	}
	if l, err := ShortestTo(x.Graph, []int{2}); !slices.Equal(l, []int{0, 2}) || err != api.OK {
		t.Error(l, err)
	}
	g := api.Graph{States: 5, Init: []int{0, 1}, Edges: []api.Edge{{From: 0, To: 2}, {From: 0, To: 3}, {From: 1, To: 2}, {From: 2, To: 4}, {From: 3, To: 4}}}
	for i, c := range []struct {
		to   []int
		want []int
		err  api.Errno
	}{{[]int{4}, []int{0, 2, 4}, api.OK}, {[]int{1, 4}, []int{1}, api.OK}, {nil, nil, api.ErrNone}, {[]int{5}, nil, api.ErrRange}, {[]int{2, 1}, nil, api.ErrOrder}, {[]int{-1}, nil, api.ErrRange}} {
		if l, err := ShortestTo(g, c.to); !slices.Equal(l, c.want) || err != c.err {
			t.Errorf("%d: %v %d", i, l, err)
		}
	}
	g.Init = nil
	if _, err := ShortestTo(g, []int{0}); err != api.ErrNone {
		t.Error(err)
	}
	_, e1 := ComponentsOf(api.Graph{States: -1})
	_, e2 := ComponentsOf(api.Graph{States: 61})
	_, e3 := ShortestTo(api.Graph{States: 61}, nil)
	if e1 != api.ErrForm || e2 != api.ErrLarge || e3 != api.ErrLarge {
		t.Error(e1, e2, e3)
	}
}

func TestFairIn(t *testing.T) {
	x := example()
	for i, c := range []struct {
		weak, strong, in []int
		want             bool
	}{{nil, nil, []int{0}, true}, {[]int{0}, nil, []int{0}, false}, {[]int{0}, nil, []int{0, 1}, true}, {nil, []int{1}, []int{0, 1}, true}, {nil, []int{1}, []int{0}, false}, {nil, []int{1}, []int{1}, true}, {[]int{0, 1}, []int{0, 1}, []int{2}, true}, {[]int{0}, []int{1}, []int{1}, false}, {nil, nil, nil, false}, {nil, []int{0}, []int{0, 1, 2}, true}} {
		x.Weak, x.Strong = c.weak, c.strong
		l, err := FairIn(x, c.in)
		if (err == api.OK) != c.want || !c.want && err != api.ErrNone {
			t.Errorf("%d: %v %d", i, l, err)
		}
		if fair, e := lasso.IsFair(x, l); c.want && (!fair || e != api.OK || slices.ContainsFunc(l.Loop, func(s int) bool { return !slices.Contains(c.in, s) })) {
			t.Errorf("%d: %v %d", i, l, e)
		}
	}
	_, e1 := FairIn(x, []int{3})
	_, e2 := FairIn(x, []int{1, 1})
	x.Labels = nil
	_, e3 := FairIn(x, nil)
	if e1 != api.ErrRange || e2 != api.ErrOrder || e3 != api.ErrShape {
		t.Error(e1, e2, e3)
	}
}

func TestCheck(t *testing.T) {
	x := example()
	f := read(t, "<>p0")
	x.Weak, x.Strong = []int{0}, []int{1}
	if a, err := Check(x, f); !a.Kept || err != api.OK {
		t.Error(a, err)
	}
	x.Weak, x.Strong = []int{0, 1}, nil
	a, err := Check(x, f)
	if a.Kept || err != api.OK {
		t.Error(a, err)
	}
	if _, err := CheckAgainst(x, f, a.Lasso); err != api.OK {
		t.Error(a, err)
	}
	for i, c := range []struct {
		l   api.Lasso
		f   api.Formula
		at  int
		err api.Errno
	}{{api.Lasso{Loop: []int{0, 1}}, f, 0, api.OK}, {api.Lasso{Loop: []int{0, 3}}, nil, 1, api.ErrRange}, {api.Lasso{Loop: []int{0, 1}}, nil, 0, api.ErrEmpty}, {api.Lasso{Loop: []int{0}}, f, 0, api.ErrRefused}, {api.Lasso{Prefix: []int{0}, Loop: []int{2}}, f, 0, api.ErrProof}} {
		at, err := CheckAgainst(x, c.f, c.l)
		if at != c.at || err != c.err {
			t.Errorf("%d: %d %d", i, at, err)
		}
		if _, err := Tightened(x, c.f, c.l); err != c.err {
			t.Errorf("%d: %d", i, err)
		}
	}
	l, err := Tightened(x, f, api.Lasso{Prefix: []int{0, 0, 1, 1}, Loop: []int{0, 0, 1, 1, 0, 1}})
	if !slices.Equal(l.Loop, []int{0, 1}) || len(l.Prefix) != 0 || err != api.OK {
		t.Error(l, err)
	}
	x.Graph.Init = nil
	if a, err := Check(x, read(t, "!true")); !a.Kept || err != api.OK {
		t.Error(a, err)
	}
	_, e1 := Check(x, nil)
	_, e2 := Check(api.Labelled{Graph: api.Graph{States: 1}}, nil)
	if e1 != api.ErrEmpty || e2 != api.ErrShape {
		t.Error(e1, e2)
	}
}

// TestFortyNodes has formulas with as many nodes as there may be: their negations have more.
func TestFortyNodes(t *testing.T) {
	r := rand.New(rand.NewSource(15))
	grown := func(s string, sign string) api.Formula { // with "sign p0" put around it, and at last a negation
		f := read(t, s)
		for len(f) < api.MaxFormulaNodes-1 {
			s = "(" + s + " " + sign + " p0)"
			f = read(t, s)
		}
		if len(f) < api.MaxFormulaNodes {
			f = read(t, "!"+s)
		}
		return f
	}
	for _, s := range []string{"p1", "!p0", "true", "[]p1", "<>!p0", "(p0 ~> p1)", "([]<>p0 & p1)", "!<>p1", "(p0 U !p1)", "!(p0 ~> p1)", "(!p1 U (p0 U p1))", "([]p0 -> <>p1)"} {
		for _, sign := range []string{"&", "|", "->"} {
			f := grown(s, sign)
			if len(f) != api.MaxFormulaNodes {
				t.Fatal(s, sign, len(f))
			}
			for range 8 {
				x := some(r, 1+r.Intn(4))
				if len(x.Weak)+len(x.Strong) > 2 {
					continue
				}
				a, err := Check(x, f)
				if err != api.OK {
					t.Fatalf("%s %s: %d", s, sign, err)
				}
				if l, err := lasso.FirstAgainst(x, f, 5); a.Kept && err != api.ErrNone {
					t.Fatalf("%s %s on %v: kept, but %v", s, sign, x, l)
				}
				if _, err := CheckAgainst(x, f, a.Lasso); !a.Kept && err != api.OK {
					t.Fatalf("%s %s on %v: %v %d", s, sign, x, a.Lasso, err)
				}
			}
		}
	}
}

func TestRanks(t *testing.T) {
	x := example()
	x.Weak = []int{0, 1}
	r := api.Response{Then: 1}
	if l, err := PendingOf(x, r); !slices.Equal(l, []int{0, 1}) || err != api.OK {
		t.Error(l, err)
	}
	if _, err := RankOf(x, r); err != api.ErrBroken {
		t.Error(err)
	}
	x.Graph.Edges[2] = api.Edge{From: 1, To: 2, Action: 1}
	p, err := RankOf(x, r)
	if !slices.Equal(p.Ranks, []int{1, 0, 0}) || !slices.Equal(p.Helpful, []int{0, 1, -1}) && !slices.Equal(p.Helpful, []int{1, 1, -1}) || err != api.OK {
		t.Error(p, err)
	}
	good := api.RankProof{Ranks: []int{1, 0, 0}, Helpful: []int{1, 1, -1}}
	for i, c := range []struct {
		change func(p *api.RankProof)
		at     int
		err    api.Errno
	}{{func(*api.RankProof) {}, 1, api.OK}, {func(p *api.RankProof) { p.Ranks = p.Ranks[:2] }, 0, api.ErrShape}, {func(p *api.RankProof) { p.Helpful = nil }, 0, api.ErrShape}, {func(p *api.RankProof) { p.Ranks[2] = 1 }, 2, api.ErrForm}, {func(p *api.RankProof) { p.Helpful[2] = 0 }, 2, api.ErrForm}, {func(p *api.RankProof) { p.Ranks[1] = -1 }, 1, api.ErrRange}, {func(p *api.RankProof) { p.Ranks[0] = 10001 }, 0, api.ErrRange}, {func(p *api.RankProof) { p.Ranks[0] = 10000 }, 10000, api.OK},
		{func(p *api.RankProof) { p.Helpful[0] = -1 }, 0, api.ErrMissing}, {func(p *api.RankProof) { p.Helpful[1] = 0 }, 1, api.ErrNone}, {func(p *api.RankProof) { p.Ranks[1] = 1; p.Helpful[0] = 0 }, 0, api.ErrProof}, {func(p *api.RankProof) { p.Ranks[1] = 2 }, 0, api.ErrProof}, {func(p *api.RankProof) { p.Ranks[1] = 1 }, 1, api.OK}} {
		p := api.RankProof{Ranks: slices.Clone(good.Ranks), Helpful: slices.Clone(good.Helpful)}
		c.change(&p)
		if at, err := CheckRank(x, r, p); at != c.at || err != c.err {
			t.Errorf("%d: %d %d", i, at, err)
		}
	}
	_, e1 := PendingOf(x, api.Response{Given: 4096})
	_, e2 := RankOf(x, api.Response{Then: -1})
	_, e3 := CheckRank(x, api.Response{Then: -1}, api.RankProof{})
	x.Weak, x.Strong = nil, []int{0}
	_, e4 := RankOf(x, r)
	x.Labels = nil
	_, e5 := PendingOf(x, r)
	if e1 != api.ErrRange || e2 != api.ErrRange || e3 != api.ErrRange || e4 != api.ErrRefused || e5 != api.ErrShape {
		t.Error(e1, e2, e3, e4, e5)
	}
}

func some(r *rand.Rand, states int) api.Labelled {
	x := api.Labelled{Graph: api.Graph{States: states, Init: []int{r.Intn(states)}}, Steps: []int{2, -1, -1}, Enabled: []int{-1, 3, -1}}
	for s := range states {
		x.Labels = append(x.Labels, r.Intn(4))
		for to := range states {
			for a := range 3 {
				if r.Intn(6) == 0 {
					x.Graph.Edges = append(x.Graph.Edges, api.Edge{From: s, To: to, Action: a})
				}
			}
		}
	}
	for a := range 3 {
		switch r.Intn(4) {
		case 0:
			x.Weak = append(x.Weak, a)
		case 1:
			x.Strong = append(x.Strong, a)
		}
	}
	return x
}

func TestByChance(t *testing.T) {
	r := rand.New(rand.NewSource(5))
	formulas := []string{"<>p0", "[]<>p0", "<>[]p1", "(p0 ~> p1)", "([]<>p0 -> []<>p1)", "(p0 U p1)", "[](p0 -> <>[]p1)", "<>p2", "[]p3", "([]<>p2 & <>p1)"}
	for range 1500 {
		x := some(r, 1+r.Intn(4))
		f := read(t, formulas[r.Intn(len(formulas))])
		a, err := Check(x, f)
		if err != api.OK {
			t.Fatalf("%v: %d", x, err)
		}
		l, err := lasso.FirstAgainst(x, f, 5)
		if a.Kept && err != api.ErrNone {
			t.Fatalf("%v %v: kept, but %v", x, f, l)
		}
		if _, err := CheckAgainst(x, f, a.Lasso); !a.Kept && err != api.OK {
			t.Fatalf("%v %v: %v %d", x, f, a.Lasso, err)
		}
		response := api.Response{Given: r.Intn(3), Then: 1 + r.Intn(2)}
		p, err := RankOf(x, response)
		if len(x.Strong) > 0 {
			continue
		}
		given := map[int]string{0: "true", 1: "p0", 2: "p1"}[response.Given]
		then := map[int]string{1: "p0", 2: "p1"}[response.Then]
		answer, _ := Check(x, read(t, "("+given+" ~> "+then+")"))
		if (err == api.OK) != answer.Kept || err != api.OK && err != api.ErrBroken {
			t.Fatalf("%v %v: %d %v", x, response, err, answer)
		}
		if _, err2 := CheckRank(x, response, p); err == api.OK && err2 != api.OK {
			t.Fatalf("%v %v: %v %d", x, response, p, err2)
		}
	}
	for range 200 {
		x := some(r, 12)
		var all []int
		for s := range 12 {
			all = append(all, s)
		}
		l, err := FairIn(x, all)
		if fair, _ := lasso.IsFair(x, l); err == api.OK && !fair || err != api.OK && err != api.ErrNone {
			t.Fatalf("%v: %v %d", x, l, err)
		}
	}
}
