package refine

import (
	"math/rand"
	"reflect"
	"slices"
	"testing"

	"stutter/api"
)

func edges(l ...int) (out []api.Edge) {
	for i := 0; i < len(l); i += 2 {
		out = append(out, api.Edge{From: l[i], To: l[i+1]})
	}
	return out
}

func example() api.RefinePair {
	return api.RefinePair{Lower: api.Graph{States: 3, Init: []int{0}, Edges: edges(0, 1, 1, 2)}, Upper: api.Graph{States: 2, Init: []int{0}, Edges: edges(0, 1)}, LowerLabels: []int{0, 0, 1}, UpperLabels: []int{0, 1}}
}

func TestMapping(t *testing.T) {
	step := example()
	step.Lower.Edges = edges(0, 1, 1, 2, 2, 0)
	init := example()
	init.Upper.Init = []int{1}
	for i, c := range []struct {
		p    api.RefinePair
		m    []int
		want api.RefineFault
		err  api.Errno
	}{{example(), []int{0, 0, 1}, api.RefineFault{}, api.OK}, {example(), []int{0, 1, 1}, api.RefineFault{Kind: api.FaultLabel, At: 1, Path: []int{0, 1}}, api.ErrBroken}, {init, []int{0, 0, 1}, api.RefineFault{Kind: api.FaultInit, At: 0, Path: []int{0}}, api.ErrBroken}, {step, []int{0, 0, 1}, api.RefineFault{Kind: api.FaultStep, At: 2, Path: []int{0, 1, 2}}, api.ErrBroken}, {example(), []int{0, 0}, api.RefineFault{}, api.ErrShape}, {example(), []int{0, 0, 2}, api.RefineFault{}, api.ErrRange}} {
		f, err := CheckMapping(c.p, c.m)
		if f.Kind != c.want.Kind || f.At != c.want.At || !slices.Equal(f.Path, c.want.Path) || err != c.err {
			t.Errorf("%d: %v %d", i, f, err)
		}
	}
	lost := example()
	lost.Lower.Edges = edges(0, 1, 2, 0)
	if _, err := CheckMapping(lost, []int{0, 0, 0}); err != api.OK {
		t.Error("what cannot be reached does not matter", err)
	}
	if g, err := FoldedBy(example(), []int{0, 0, 1}); g.States != 2 || !slices.Equal(g.Init, []int{0}) || !slices.Equal(g.Edges, edges(0, 1)) || err != api.OK {
		t.Error(g, err)
	}
	if m, err := Composed(example(), []int{0, 0, 1}, []int{5, 399}); !slices.Equal(m, []int{5, 5, 399}) || err != api.OK {
		t.Error(m, err)
	}
	_, e1 := Composed(example(), []int{0, 0}, nil)
	_, e2 := Composed(example(), []int{0, 0, 1}, []int{1})
	_, e3 := Composed(example(), []int{0, 0, 1}, []int{1, 400})
	_, e4 := FoldedBy(example(), []int{0, 0, -1})
	if e1 != api.ErrShape || e2 != api.ErrShape || e3 != api.ErrRange || e4 != api.ErrRange {
		t.Error(e1, e2, e3, e4)
	}
}

func TestErrors(t *testing.T) {
	for i, c := range []struct {
		change func(p *api.RefinePair)
		err    api.Errno
	}{{func(p *api.RefinePair) { p.Lower.States = -1 }, api.ErrForm}, {func(p *api.RefinePair) { p.Upper.Init = []int{2} }, api.ErrForm}, {func(p *api.RefinePair) { p.Lower.States = 41 }, api.ErrLarge}, {func(p *api.RefinePair) { p.Upper.States = 41 }, api.ErrLarge}, {func(p *api.RefinePair) { p.LowerLabels = nil }, api.ErrShape}, {func(p *api.RefinePair) { p.UpperLabels = nil }, api.ErrShape}, {func(p *api.RefinePair) { p.LowerLabels[0] = -1 }, api.ErrRange}, {func(p *api.RefinePair) { p.UpperLabels[1] = 10001 }, api.ErrRange}} {
		p := example()
		c.change(&p)
		_, e1 := CheckMapping(p, nil)
		_, e2 := SimulationOf(p)
		_, e3 := CheckSimulation(p, [][]int{{}})
		_, _, e4 := IsSimulated(p)
		_, e5 := RanksOf(p)
		_, e6 := CheckRanks(p, []api.RefineMove{{Rank: -1}})
		_, e7 := UpperPath(p, nil)
		_, e8 := Composed(p, nil, nil)
		_, e9 := FoldedBy(p, nil)
		for _, e := range []api.Errno{e1, e2, e3, e4, e5, e6, e7, e8, e9} {
			if e != c.err {
				t.Errorf("%d: %d", i, e)
			}
		}
	}
}

func TestSimulation(t *testing.T) {
	l, err := SimulationOf(example())
	if !reflect.DeepEqual(l, [][]int{{0, 0}, {1, 0}, {2, 1}}) || err != api.OK {
		t.Error(l, err)
	}
	if is, at, err := IsSimulated(example()); !is || at != 0 || err != api.OK {
		t.Error(is, at, err)
	}
	p := example()
	p.Lower.Edges = edges(0, 1, 1, 2, 2, 0)
	if is, at, err := IsSimulated(p); is || at != 0 || err != api.OK {
		t.Error(is, at, err)
	}
	r, err := RanksOf(p)
	want := []api.RefineMove{{Low: 0, Up: 0, Rank: 3, Step: 0}, {Low: 0, Up: 1, Rank: 0, Step: -1}, {Low: 1, Up: 0, Rank: 2, Step: 1}, {Low: 1, Up: 1, Rank: 0, Step: -1}, {Low: 2, Up: 0, Rank: 0, Step: -1}, {Low: 2, Up: 1, Rank: 1, Step: 2}}
	if !slices.Equal(r, want) || err != api.OK {
		t.Error(r, err)
	}
	for i, c := range []struct {
		l   [][]int
		at  int
		err api.Errno
	}{{nil, 0, api.OK}, {[][]int{{2, 1}}, 0, api.OK}, {[][]int{{1}}, 0, api.ErrShape}, {[][]int{{0, 0}, {3, 0}}, 1, api.ErrRange}, {[][]int{{0, 0}, {0, -1}}, 1, api.ErrRange}, {[][]int{{1, 0}, {0, 0}}, 1, api.ErrOrder}, {[][]int{{1, 0}, {1, 0}}, 1, api.ErrOrder}, {[][]int{{0, 1}}, 0, api.ErrBroken}, {[][]int{{0, 0}, {2, 1}}, 0, api.ErrBroken}} {
		if at, err := CheckSimulation(example(), c.l); at != c.at || err != c.err {
			t.Errorf("%d: %d %d", i, at, err)
		}
	}
	for i, c := range []struct {
		change func(l []api.RefineMove) []api.RefineMove
		at     int
		err    api.Errno
	}{{func(l []api.RefineMove) []api.RefineMove { return l }, 0, api.OK}, {func(l []api.RefineMove) []api.RefineMove { l[1].Low = 3; return l }, 1, api.ErrRange}, {func(l []api.RefineMove) []api.RefineMove { l[1].Rank = -1; return l }, 1, api.ErrRange}, {func(l []api.RefineMove) []api.RefineMove { l[1] = l[0]; return l }, 1, api.ErrOrder}, {func(l []api.RefineMove) []api.RefineMove { l[1].Step = 0; return l }, 1, api.ErrProof}, {func(l []api.RefineMove) []api.RefineMove { l[5].Rank = 0; l[5].Step = -1; return l }, 5, api.ErrProof},
		{func(l []api.RefineMove) []api.RefineMove { l[2].Step = 0; return l }, 2, api.ErrProof}, {func(l []api.RefineMove) []api.RefineMove { l[2].Step = 3; return l }, 2, api.ErrProof}, {func(l []api.RefineMove) []api.RefineMove { l[5].Rank = 2; return l }, 2, api.ErrProof}, {func(l []api.RefineMove) []api.RefineMove { return l[:5] }, 2, api.ErrProof}, {func(l []api.RefineMove) []api.RefineMove { l[0].Rank = 9; return l }, 0, api.OK}} {
		if at, err := CheckRanks(p, c.change(slices.Clone(want))); at != c.at || err != c.err {
			t.Errorf("%d: %d %d", i, at, err)
		}
	}
}

func TestUpperPath(t *testing.T) {
	p := example()
	for i, c := range []struct {
		path, want []int
		err        api.Errno
	}{{[]int{0, 1, 2}, []int{0, 0, 1}, api.OK}, {[]int{0, 0, 1}, []int{0, 0, 0}, api.OK}, {nil, nil, api.ErrEmpty}, {make([]int, 61), nil, api.ErrLarge}, {[]int{0, 3}, nil, api.ErrRange}, {[]int{1}, nil, api.ErrClash}, {[]int{0, 2}, nil, api.ErrClash}} {
		if l, err := UpperPath(p, c.path); !slices.Equal(l, c.want) || err != c.err {
			t.Errorf("%d: %v %d", i, l, err)
		}
	}
	p.UpperLabels = []int{0, 2}
	if _, err := UpperPath(p, []int{0, 1, 2}); err != api.ErrNone {
		t.Error(err)
	}
	q := api.RefinePair{Lower: api.Graph{States: 2, Init: []int{0}, Edges: edges(0, 1)}, Upper: api.Graph{States: 4, Init: []int{0, 1}, Edges: edges(1, 2, 1, 3)}, LowerLabels: []int{0, 1}, UpperLabels: []int{0, 0, 1, 1}}
	if l, err := UpperPath(q, []int{0, 1}); !slices.Equal(l, []int{1, 2}) || err != api.OK {
		t.Error(l, err)
	}
}

func some(r *rand.Rand, n int) (api.Graph, []int) {
	g := api.Graph{States: n, Init: []int{r.Intn(n)}}
	var labels []int
	for s := range n {
		labels = append(labels, r.Intn(2))
		for u := range n {
			if r.Intn(4) == 0 {
				g.Edges = append(g.Edges, api.Edge{From: s, To: u})
			}
		}
	}
	return g, labels
}

func TestByChance(t *testing.T) {
	r := rand.New(rand.NewSource(11))
	for range 1000 {
		var p api.RefinePair
		p.Lower, p.LowerLabels = some(r, 1+r.Intn(4))
		p.Upper, p.UpperLabels = some(r, 1+r.Intn(4))
		l, _ := SimulationOf(p)
		ranks, _ := RanksOf(p)
		_, e1 := CheckSimulation(p, l)
		_, e2 := CheckRanks(p, ranks)
		if e1 != api.OK || e2 != api.OK || len(l)+len(ranks) != p.Lower.States*p.Upper.States {
			t.Fatal(p, l, ranks, e1, e2)
		}
		is, _, _ := IsSimulated(p)
		path := []int{p.Lower.Init[0]}
		for range 6 {
			for _, e := range p.Lower.Edges {
				if e.From == path[len(path)-1] && r.Intn(2) == 0 {
					path = append(path, e.To)
					break
				}
			}
		}
		if up, err := UpperPath(p, path); is && err != api.OK {
			t.Fatal(p, path, up, err)
		}
		var m, n []int
		for range p.Lower.States {
			m = append(m, r.Intn(p.Upper.States))
		}
		for s := range m { // rather one with the right labels
			for u := range p.Upper.States {
				if p.LowerLabels[s] != p.UpperLabels[m[s]] && p.LowerLabels[s] == p.UpperLabels[u] {
					m[s] = u
				}
			}
		}
		if _, err := CheckMapping(p, m); err != api.OK {
			continue
		}
		if !is {
			t.Fatal("mapped, but not simulated", p, m)
		}
		third, labels := some(r, 2)
		for range p.Upper.States {
			n = append(n, r.Intn(2))
		}
		q := api.RefinePair{Lower: p.Upper, Upper: third, LowerLabels: p.UpperLabels, UpperLabels: labels}
		if _, err := CheckMapping(q, n); err == api.OK {
			both, _ := Composed(p, m, n)
			if _, err := CheckMapping(api.RefinePair{Lower: p.Lower, Upper: third, LowerLabels: p.LowerLabels, UpperLabels: labels}, both); err != api.OK {
				t.Fatal("composed", p, q, m, n)
			}
		}
	}
}
