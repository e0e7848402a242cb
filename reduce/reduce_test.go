package reduce

import (
	"math/rand"
	"slices"
	"testing"

	"stutter/api"
	"stutter/walks"
)

func edges(l ...int) (out []api.Edge) {
	for i := 0; i < len(l); i += 3 {
		out = append(out, api.Edge{From: l[i], To: l[i+1], Action: l[i+2]})
	}
	return out
}

func example() api.Graph {
	return api.Graph{States: 4, Init: []int{0}, Edges: edges(0, 1, 0, 0, 2, 1, 1, 3, 1, 2, 3, 0)}
}

func TestIndependence(t *testing.T) {
	l, err := IndependentIn(example())
	if len(l) != 12 || !slices.Contains(l[0], 1) || slices.Contains(l[0], 0) || len(l[5]) != 11 || err != api.OK {
		t.Error(l, err)
	}
	if _, err := DependenceOf(example(), 0, 1); err != api.ErrNone {
		t.Error(err)
	}
	for i, c := range []struct {
		edges []api.Edge
		a, b  int
		want  api.ReduceClash
	}{
		{edges(0, 1, 0, 0, 2, 1, 1, 3, 1), 0, 1, api.ReduceClash{State: 0, Condition: 1, A: 0, B: 1}}, {edges(0, 1, 0, 0, 2, 1, 1, 3, 1), 1, 0, api.ReduceClash{State: 0, Condition: 1, A: 1, B: 0}},
		{edges(0, 1, 0, 0, 2, 1, 1, 0, 1, 1, 3, 1, 2, 3, 0), 0, 1, api.ReduceClash{State: 0, Condition: 2, A: 0, B: 2}}, {edges(0, 1, 0, 0, 2, 1, 1, 3, 1, 2, 1, 0, 2, 3, 0), 0, 1, api.ReduceClash{State: 0, Condition: 3, A: 3, B: 1}},
	} {
		g := api.Graph{States: 4, Init: []int{0}, Edges: c.edges}
		if x, err := DependenceOf(g, c.a, c.b); x != c.want || err != api.OK {
			t.Errorf("%d: %v %d", i, x, err)
		}
		if l, _ := IndependentIn(g); slices.Contains(l[0], 1) || slices.Contains(l[1], 0) {
			t.Errorf("%d: %v", i, l)
		}
	}
	for i, c := range []struct {
		g    api.Graph
		a, b int
		err  api.Errno
	}{{api.Graph{States: -1}, -1, -1, api.ErrForm}, {api.Graph{States: 61}, -1, -1, api.ErrLarge}, {example(), -1, 0, api.ErrRange}, {example(), 0, 12, api.ErrRange}, {example(), 1, 1, api.ErrForm}, {example(), 7, 8, api.ErrNone}} {
		if _, err := DependenceOf(c.g, c.a, c.b); err != c.err {
			t.Errorf("%d: %d", i, err)
		}
	}
	if l, err := VisibleIn(example(), []int{0, 1, 0, 1}); !slices.Equal(l, []int{0}) || err != api.OK {
		t.Error(l, err)
	}
	_, e1 := VisibleIn(example(), []int{0})
	_, e2 := VisibleIn(example(), []int{0, -1, 0, 0})
	_, e3 := VisibleIn(api.Graph{States: 61}, nil)
	_, e4 := IndependentIn(api.Graph{States: 61})
	_, e5 := VisibleIn(example(), []int{0, 10001, 0, 0})
	if e1 != api.ErrShape || e2 != api.ErrRange || e3 != api.ErrLarge || e4 != api.ErrLarge || e5 != api.ErrRange {
		t.Error(e1, e2, e3, e4, e5)
	}
}

func TestChoices(t *testing.T) {
	same, odd := []int{0, 0, 0, 0}, []int{0, 1, 0, 1}
	g := example()
	less := api.Graph{States: 4, Init: []int{0}, Edges: edges(0, 1, 0, 0, 2, 1, 1, 3, 1)}
	loops := api.Graph{States: 4, Init: []int{0}, Edges: edges(0, 0, 2, 0, 1, 0, 0, 2, 1, 1, 1, 2, 1, 3, 1, 2, 2, 2, 2, 3, 0, 3, 3, 2)}
	far := api.Graph{States: 4, Init: []int{0}, Edges: edges(0, 1, 0, 0, 2, 1, 2, 3, 0, 2, 3, 2, 3, 3, 1)}
	for i, c := range []struct {
		g      api.Graph
		labels []int
		choice [][]int
		want   api.ReduceFault
		err    api.Errno
	}{
		{g, same, [][]int{{0}, {1}, {0}, {}}, api.ReduceFault{}, api.OK}, {g, same, [][]int{{0, 1}, {1}, {0}, {}}, api.ReduceFault{}, api.OK}, {g, odd, [][]int{{0}, {1}, {0}, {}}, api.ReduceFault{State: 0, Rule: 3, Path: []int{0}}, api.ErrBroken}, {g, same, [][]int{{0}, {}, {0}, {}}, api.ReduceFault{State: 1, Rule: 1}, api.ErrBroken}, {less, same, [][]int{{0}, {1}, {}, {}}, api.ReduceFault{State: 0, Rule: 2, Path: []int{0, 1}}, api.ErrBroken},
		{loops, same, [][]int{{2}, {1, 2}, {0, 2}, {2}}, api.ReduceFault{State: 0, Rule: 4, Path: []int{0, 2, 0}}, api.ErrBroken}, {loops, same, [][]int{{0}, {1}, {0}, {2}}, api.ReduceFault{}, api.OK}, {far, same, [][]int{{1}, {}, {0, 2}, {1}}, api.ReduceFault{}, api.OK}, {g, same, [][]int{{0}, {1}, {0}}, api.ReduceFault{}, api.ErrShape}, {g, same, [][]int{{1, 0}, {1}, {0}, {}}, api.ReduceFault{}, api.ErrOrder}, {g, same, [][]int{{2}, {1}, {0}, {}}, api.ReduceFault{}, api.ErrMissing}, {g, same[:3], nil, api.ReduceFault{}, api.ErrShape}, {api.Graph{States: -1}, nil, nil, api.ReduceFault{}, api.ErrForm},
	} {
		f, err := CheckChoice(c.g, c.labels, c.choice)
		if i == 7 { // the actions 0 and 1 are never taken one after the other
			if err != api.ErrBroken || f.Rule != 2 {
				t.Errorf("%d: %v %d", i, f, err)
			}
			continue
		}
		if f.State != c.want.State || f.Rule != c.want.Rule || !slices.Equal(f.Path, c.want.Path) || err != c.err {
			t.Errorf("%d: %v %d", i, f, err)
		}
		if len(c.labels) == c.g.States && c.g.States > 0 && err != api.ErrBroken {
			if _, err2 := ReducedBy(c.g, c.choice); err2 != err {
				t.Errorf("%d: %d", i, err2)
			}
		}
	}
	r, err := ReducedBy(g, [][]int{{0}, {1}, {0}, {}})
	if !slices.Equal(r.Edges, edges(0, 1, 0, 1, 3, 1, 2, 3, 0)) || r.States != 4 || !slices.Equal(r.Init, []int{0}) || err != api.OK {
		t.Error(r, err)
	}
	if c, err := ChoiceFor(g, same); len(c[0]) != 1 || err != api.OK {
		t.Error(c, err)
	}
	if c, err := ChoiceFor(api.Graph{States: 2}, []int{0, 0}); len(c) != 2 || len(c[0]) != 0 || err != api.OK {
		t.Error(c, err)
	}
	_, e1 := ChoiceFor(g, nil)
	_, e2 := ReducedBy(api.Graph{States: 61}, nil)
	if e1 != api.ErrShape || e2 != api.ErrLarge {
		t.Error(e1, e2)
	}
}

func TestPathsToDependentActions(t *testing.T) {
	for i, c := range []struct {
		edges  []api.Edge
		choice [][]int
		path   []int
	}{
		{edges(0, 0, 1, 0, 1, 0), [][]int{{0}, {}, {}, {}, {}}, []int{0, 1}},
		{edges(0, 1, 0, 0, 2, 1, 1, 3, 1), [][]int{{0}, {1}, {}, {}, {}}, []int{0, 1}},
		{edges(0, 1, 2, 0, 4, 0, 1, 2, 1, 1, 3, 1, 1, 4, 0), [][]int{{0}, {0, 1}, {}, {}, {}}, []int{0, 2}},
		{edges(0, 1, 2, 0, 2, 0, 1, 3, 0, 1, 4, 1, 2, 3, 2, 3, 4, 1, 3, 4, 2), [][]int{{0}, {0, 1}, {2}, {1, 2}, {}}, []int{0, 2, 1, 1}},
	} {
		g := api.Graph{States: 5, Init: []int{0}, Edges: c.edges}
		f, err := CheckChoice(g, make([]int, 5), c.choice)
		if f.State != 0 || f.Rule != 2 || !slices.Equal(f.Path, c.path) || err != api.ErrBroken {
			t.Errorf("%d: %v %d", i, f, err)
		}
	}
}

// listedPath lists the paths from a state by their lengths, and takes the least one that breaks rule 2.
func listedPath(g api.Graph, s int, chosen []int) []int {
	independent, _ := IndependentIn(g)
	paths := [][]int{{s}}
	for range g.States {
		var longer, found [][]int
		for _, p := range paths {
			for _, e := range g.Edges {
				if e.From != p[len(p)-1] || slices.Contains(chosen, e.Action) {
					continue
				}
				p := append(slices.Clone(p), e.Action)
				if slices.ContainsFunc(chosen, func(a int) bool { return !slices.Contains(independent[a], e.Action) }) {
					found = append(found, p)
				}
				longer = append(longer, append(slices.Clone(p), e.To))
			}
		}
		if len(found) > 0 {
			return slices.MinFunc(found, slices.Compare)
		}
		paths = longer
	}
	return nil
}

func TestPathsByChance(t *testing.T) {
	r := rand.New(rand.NewSource(19))
	longest := 0
	for range 3000 {
		// a counter, and another one with an action for each of its steps, with some steps left out or added
		g := api.Graph{States: 12}
		for s := range g.States {
			if s < 8 && r.Intn(12) > 0 {
				g.Edges = append(g.Edges, api.Edge{From: s, To: s + 4, Action: r.Intn(20) / 19})
			}
			if s%4 < 3 && r.Intn(12) > 0 {
				g.Edges = append(g.Edges, api.Edge{From: s, To: s + 1, Action: 1 + s%4})
			}
			if r.Intn(12) == 0 {
				g.Edges = append(g.Edges, api.Edge{From: s, To: r.Intn(12), Action: r.Intn(4)})
			}
		}
		slices.SortFunc(g.Edges, walks.CompareEdges)
		g.Edges = slices.Compact(g.Edges)
		enabled := make([][]int, g.States)
		for _, e := range g.Edges {
			enabled[e.From] = append(enabled[e.From], e.Action)
		}
		for s := range enabled {
			slices.Sort(enabled[s])
			enabled[s] = slices.Compact(enabled[s])
		}
		for s, all := range enabled {
			if len(all) < 2 {
				continue
			}
			c := slices.Clone(enabled)
			c[s] = all[:1]
			f, err := CheckChoice(g, make([]int, g.States), c)
			path := listedPath(g, s, all[:1])
			if broken := err == api.ErrBroken && f.Rule == 2; broken != (path != nil) || broken && (f.State != s || !slices.Equal(f.Path, path)) {
				t.Fatal(g, c, f, err, path)
			}
			longest = max(longest, len(path))
		}
	}
	if longest < 6 {
		t.Error("no long paths:", longest)
	}
}

func TestTraces(t *testing.T) {
	g := example()
	labels := []int{0, 1, 0, 2}
	for i, c := range []struct {
		trace []int
		want  bool
	}{{nil, true}, {[]int{0}, true}, {[]int{1}, false}, {[]int{0, 1, 2}, true}, {[]int{0, 2}, true}, {[]int{0, 0}, false}, {[]int{0, 1, 0}, false}, {[]int{0, 7}, false}} {
		if is, err := IsTrace(g, labels, c.trace); is != c.want || err != api.OK {
			t.Errorf("%d: %v %d", i, is, err)
		}
	}
	_, e1 := IsTrace(g, labels, make([]int, 61))
	_, e2 := IsTrace(g, nil, nil)
	if e1 != api.ErrLarge || e2 != api.ErrShape {
		t.Error(e1, e2)
	}
	g.States = 5
	if l, err := ReachedIn(g); !slices.Equal(l, []int{0, 1, 2, 3}) || err != api.OK {
		t.Error(l, err)
	}
	if l, err := DeadlocksIn(g); !slices.Equal(l, []int{3}) || err != api.OK {
		t.Error(l, err)
	}
	_, e1 = ReachedIn(api.Graph{States: 61})
	_, e2 = DeadlocksIn(api.Graph{States: 61})
	if e1 != api.ErrLarge || e2 != api.ErrLarge {
		t.Error(e1, e2)
	}
}

func TestByChance(t *testing.T) {
	r := rand.New(rand.NewSource(9))
	for range 2000 {
		// two or three independent counters, with some steps left out or added
		var g api.Graph
		n := 2 + r.Intn(2)
		g.States = n * n
		g.Init = []int{0}
		var labels []int
		for s := range g.States {
			labels = append(labels, []int{0, s / n, s % n}[r.Intn(30)/14])
			a, b := s/n, s%n
			if a+1 < n && r.Intn(12) > 0 {
				g.Edges = append(g.Edges, api.Edge{From: s, To: s + n})
			}
			if b+1 < n && r.Intn(12) > 0 {
				g.Edges = append(g.Edges, api.Edge{From: s, To: s + 1, Action: 1})
			}
			if r.Intn(5) == 0 {
				g.Edges = append(g.Edges, api.Edge{From: s, To: r.Intn(g.States), Action: 2})
			}
		}
		slices.SortFunc(g.Edges, func(a, b api.Edge) int { return (a.From-b.From)*1000 + (a.To-b.To)*20 + a.Action - b.Action })
		c, err := ChoiceFor(g, labels)
		f, err2 := CheckChoice(g, labels, c)
		if err != api.OK || err2 != api.OK {
			t.Fatal(g, labels, c, f, err, err2)
		}
		small, _ := ReducedBy(g, c)
		a, _ := DeadlocksIn(g)
		b, _ := DeadlocksIn(small)
		if !slices.Equal(a, b) {
			t.Fatal("deadlocks", g, c, a, b)
		}
		for range 20 {
			var trace []int
			for range r.Intn(4) {
				trace = append(trace, r.Intn(n))
			}
			x, _ := IsTrace(g, labels, trace)
			y, _ := IsTrace(small, labels, trace)
			if x != y {
				t.Fatal("trace", g, labels, c, trace, x, y)
			}
		}
	}
}
