package simulate

import (
	"math/rand"
	"slices"
	"testing"

	"stutter/api"
)

func example() api.Graph {
	return api.Graph{States: 3, Init: []int{0}, Edges: []api.Edge{{From: 0, To: 1}, {From: 0, To: 2, Action: 1}, {From: 1, To: 0}}}
}

func ones() []int { return slices.Repeat([]int{1}, 12) }

func TestNumbers(t *testing.T) {
	if l, err := NumbersOf(1, 2); !slices.Equal(l, []int{48271, 182605794}) || err != api.OK {
		t.Error(l, err)
	}
	for i, c := range []struct {
		seed, count int
		err         api.Errno
	}{{0, -1, api.ErrRange}, {2147483647, 1, api.ErrRange}, {2147483646, 300, api.OK}, {1, 301, api.ErrLarge}, {1, -1, api.ErrLarge}, {1, 0, api.OK}} {
		if l, err := NumbersOf(c.seed, c.count); err != c.err || err == api.OK && len(l) != c.count {
			t.Errorf("%d: %d", i, err)
		}
	}
}

func TestWalks(t *testing.T) {
	w := ones()
	if x, err := WalkOf(example(), w, api.SimSeed{Seed: 1, Steps: 2}); x.First != 0 || !slices.Equal(x.Steps, []int{0, 2}) || x.Stuck || err != api.OK {
		t.Error(x, err)
	}
	w[0] = 0
	if x, err := WalkOf(example(), w, api.SimSeed{Seed: 1, Steps: 9}); !slices.Equal(x.Steps, []int{1}) || !x.Stuck || err != api.OK {
		t.Error(x, err)
	}
	if x, err := WalkOf(example(), w, api.SimSeed{Seed: 1, Steps: 1}); !x.Stuck || err != api.OK {
		t.Error(x, err)
	}
	if x, err := WalkOf(example(), w, api.SimSeed{Seed: 1}); x.Stuck || len(x.Steps) != 0 || err != api.OK {
		t.Error(x, err)
	}
	// the number chooses by weights: 182605794 modulo 5 is 4, and the sum of the weights is 2, then 5
	w[0], w[1] = 2, 3
	if x, _ := WalkOf(example(), w, api.SimSeed{Seed: 1, Steps: 1}); !slices.Equal(x.Steps, []int{1}) {
		t.Error(x)
	}
	w[0], w[1] = 3, 3 // 182605794 modulo 6 is 0
	if x, _ := WalkOf(example(), w, api.SimSeed{Seed: 1, Steps: 1}); !slices.Equal(x.Steps, []int{0}) {
		t.Error(x)
	}
	two := api.Graph{States: 3, Init: []int{0, 2}}
	if x, _ := WalkOf(two, w, api.SimSeed{Seed: 1, Steps: 1}); x.First != 2 || !x.Stuck {
		t.Error(x)
	}
	bad := ones()
	bad[3] = 101
	for i, c := range []struct {
		g   api.Graph
		w   []int
		x   api.SimSeed
		err api.Errno
	}{{api.Graph{States: -1}, nil, api.SimSeed{}, api.ErrForm}, {example(), nil, api.SimSeed{}, api.ErrShape}, {example(), bad, api.SimSeed{}, api.ErrRange}, {example(), w, api.SimSeed{}, api.ErrRange}, {example(), w, api.SimSeed{Seed: 1, Steps: 301}, api.ErrLarge}, {example(), w, api.SimSeed{Seed: 1, Steps: -1}, api.ErrLarge}, {api.Graph{}, w, api.SimSeed{Seed: 1}, api.ErrEmpty}} {
		if _, err := WalkOf(c.g, c.w, c.x); err != c.err {
			t.Errorf("%d: %d", i, err)
		}
	}
	for i, c := range []struct {
		x   api.SimWalk
		end int
		err api.Errno
	}{{api.SimWalk{Steps: []int{0, 2, 1}, Stuck: true}, 2, api.OK}, {api.SimWalk{Steps: make([]int, 301)}, 0, api.ErrLarge}, {api.SimWalk{First: 1}, 0, api.ErrMissing}, {api.SimWalk{Steps: []int{3}}, 0, api.ErrRange}, {api.SimWalk{Steps: []int{-1}}, 0, api.ErrRange}, {api.SimWalk{Steps: []int{0, 1}}, 0, api.ErrClash}} {
		if end, err := CheckWalk(example(), c.x); end != c.end || err != c.err {
			t.Errorf("%d: %d %d", i, end, err)
		}
		_, e1 := CoverageOf(example(), []api.SimWalk{c.x})
		_, e2 := UncoveredIn(example(), []api.SimWalk{c.x})
		if e1 != c.err || e2 != c.err {
			t.Errorf("%d: %d %d", i, e1, e2)
		}
	}
}

func TestCoverage(t *testing.T) {
	g := example()
	c, err := CoverageOf(g, []api.SimWalk{{Steps: []int{0, 2}}, {Steps: []int{0}}})
	if !slices.Equal(c.States, []int{3, 2, 0}) || !slices.Equal(c.Steps, []int{2, 0, 1}) || err != api.OK {
		t.Error(c, err)
	}
	g.States = 4
	g.Edges = append(g.Edges, api.Edge{From: 3, To: 0})
	if l, err := UncoveredIn(g, []api.SimWalk{{Steps: []int{0}}}); !slices.Equal(l, []int{1, 2}) || err != api.OK {
		t.Error(l, err)
	}
	if l, err := DistancesIn(g); !slices.Equal(l, []int{0, 1, 1, -1}) || err != api.OK {
		t.Error(l, err)
	}
	if x, err := LeastWalk(g, 2); x.First != 0 || !slices.Equal(x.Steps, []int{1}) || err != api.OK {
		t.Error(x, err)
	}
	h := api.Graph{States: 5, Init: []int{0, 1}, Edges: []api.Edge{{From: 0, To: 2}, {From: 0, To: 2, Action: 1}, {From: 0, To: 3}, {From: 1, To: 2}, {From: 2, To: 4}, {From: 3, To: 4}}}
	if x, err := LeastWalk(h, 4); x.First != 0 || !slices.Equal(x.Steps, []int{0, 4}) || err != api.OK {
		t.Error(x, err)
	}
	if x, err := LeastWalk(h, 1); x.First != 1 || len(x.Steps) != 0 || err != api.OK {
		t.Error(x, err)
	}
	_, e1 := LeastWalk(g, 3)
	_, e2 := LeastWalk(g, 4)
	_, e3 := LeastWalk(g, -1)
	_, e4 := CoverageOf(g, make([]api.SimWalk, 61))
	_, e5 := UncoveredIn(api.Graph{States: -1}, nil)
	_, e6 := DistancesIn(api.Graph{States: 1 << 40})
	if e1 != api.ErrNone || e2 != api.ErrRange || e3 != api.ErrRange || e4 != api.ErrLarge || e5 != api.ErrForm || e6 != api.ErrForm {
		t.Error(e1, e2, e3, e4, e5, e6)
	}
}

func TestTours(t *testing.T) {
	if l, err := TourOf(example(), 3); len(l) != 1 || !slices.Equal(l[0].Steps, []int{0, 2, 1}) || err != api.OK {
		t.Error(l, err)
	}
	if l, err := TourOf(api.Graph{States: 1, Init: []int{0}}, 1); len(l) != 0 || err != api.OK {
		t.Error(l, err)
	}
	for i, c := range []struct {
		g    api.Graph
		most int
		err  api.Errno
	}{{api.Graph{States: -1}, 0, api.ErrForm}, {example(), 0, api.ErrRange}, {example(), 301, api.ErrRange}, {example(), 1, api.ErrNone}, {example(), 2, api.OK}} {
		if _, err := TourOf(c.g, c.most); err != c.err {
			t.Errorf("%d: %d", i, err)
		}
	}
}

func TestByChance(t *testing.T) {
	r := rand.New(rand.NewSource(10))
	for range 500 {
		g := api.Graph{States: 1 + r.Intn(6), Init: []int{0}}
		for s := range g.States {
			for to := range g.States {
				for a := range 2 {
					if r.Intn(5) == 0 {
						g.Edges = append(g.Edges, api.Edge{From: s, To: to, Action: a})
					}
				}
			}
		}
		w := ones()
		w[0], w[1] = r.Intn(3), r.Intn(3)
		seed := 1 + r.Intn(1000000)
		long, err := WalkOf(g, w, api.SimSeed{Seed: seed, Steps: 20})
		short, err2 := WalkOf(g, w, api.SimSeed{Seed: seed, Steps: r.Intn(20)})
		if err != api.OK || err2 != api.OK || len(short.Steps) <= len(long.Steps) && !slices.Equal(short.Steps, long.Steps[:len(short.Steps)]) {
			t.Fatal(long, short)
		}
		if _, err := CheckWalk(g, long); err != api.OK || slices.ContainsFunc(long.Steps, func(i int) bool { return w[g.Edges[i].Action] == 0 }) {
			t.Fatal(long)
		}
		most := 1 + r.Intn(8)
		l, err := TourOf(g, most)
		if err == api.ErrNone {
			continue
		}
		left, err2 := UncoveredIn(g, l)
		if err != api.OK || err2 != api.OK || len(left) > 0 || slices.ContainsFunc(l, func(x api.SimWalk) bool { return len(x.Steps) > most || len(x.Steps) == 0 }) {
			t.Fatal(g, l, left, err)
		}
		seen := map[int]bool{}
		for _, x := range l {
			if seen[x.Steps[len(x.Steps)-1]] {
				t.Fatal("taken before", l)
			}
			for _, i := range x.Steps {
				seen[i] = true
			}
		}
		c, _ := CoverageOf(g, l)
		visits, steps := 0, 0
		for _, n := range c.States {
			visits += n
		}
		for _, x := range l {
			steps += len(x.Steps)
		}
		d, _ := DistancesIn(g)
		for s, n := range d {
			x, err := LeastWalk(g, s)
			if (n == api.None) != (err == api.ErrNone) || err == api.OK && len(x.Steps) != n {
				t.Fatal(g, s, n, x)
			}
		}
		if visits != steps+len(l) {
			t.Fatal(visits, steps, len(l))
		}
	}
}
