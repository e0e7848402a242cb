package auxiliary

import (
	"math/rand"
	"slices"
	"testing"

	"stutter/api"
)

func example() api.Graph {
	return api.Graph{States: 2, Init: []int{0}, Edges: []api.Edge{{From: 0, To: 1}, {From: 1, To: 0, Action: 1}}}
}

func history() api.AuxHistory {
	return api.AuxHistory{Start: []int{0, 0}, Next: [][]int{{1, 2, 2, 2, 2, 2, 2, 2}, {0, 1, 2, 3, 4, 5, 6, 7}}}
}

func prophecy() api.AuxProphecy {
	return api.AuxProphecy{Count: 2, Allowed: [][][]int{{{0, 0}, {1, 1}}, {{0, 0}, {0, 1}, {1, 0}, {1, 1}}}}
}

func TestHistory(t *testing.T) {
	x, err := AddHistory(example(), history())
	if !slices.Equal(x.Base, []int{0, 0, 0, 1, 1}) || !slices.Equal(x.Aux, []int{0, 1, 2, 1, 2}) || !slices.Equal(x.Graph.Init, []int{0}) || x.Graph.Edges[0] != (api.Edge{From: 0, To: 3}) || len(x.Graph.Edges) != 5 || err != api.OK {
		t.Error(x, err)
	}
	if l, err := LiftHistory(example(), history(), []int{0, 1, 0, 1}); !slices.Equal(l, []int{0, 3, 1, 4}) || err != api.OK {
		t.Error(l, err)
	}
	for i, c := range []struct {
		change func(g *api.Graph, h *api.AuxHistory)
		err    api.Errno
	}{{func(g *api.Graph, h *api.AuxHistory) { g.States = -1 }, api.ErrForm}, {func(g *api.Graph, h *api.AuxHistory) { g.States = 31 }, api.ErrLarge}, {func(g *api.Graph, h *api.AuxHistory) { g.Edges[1].Action = 11 }, api.ErrRange}, {func(g *api.Graph, h *api.AuxHistory) { h.Start = nil }, api.ErrShape}, {func(g *api.Graph, h *api.AuxHistory) { h.Start[0] = 8 }, api.ErrRange}, {func(g *api.Graph, h *api.AuxHistory) { h.Next = nil }, api.ErrShape}, {func(g *api.Graph, h *api.AuxHistory) { h.Next[1] = nil }, api.ErrShape}, {func(g *api.Graph, h *api.AuxHistory) { h.Next[1][7] = -1 }, api.ErrRange}} {
		g, h := example(), history()
		c.change(&g, &h)
		_, e1 := AddHistory(g, h)
		_, e2 := LiftHistory(g, h, nil)
		if e1 != c.err || e2 != c.err {
			t.Errorf("%d: %d %d", i, e1, e2)
		}
	}
	many := api.Graph{States: 12, Init: []int{0}}
	for s := range 12 {
		for to := range 12 {
			if len(many.Edges) < 121 {
				many.Edges = append(many.Edges, api.Edge{From: s, To: to})
			}
		}
	}
	if _, err := AddHistory(many, api.AuxHistory{}); err != api.ErrLarge {
		t.Error(err)
	}
}

func TestProphecy(t *testing.T) {
	if s, w, err := CheckProphecy(example(), prophecy()); s != 0 || w != 0 || err != api.OK {
		t.Error(s, w, err)
	}
	x, err := AddProphecy(example(), prophecy())
	if !slices.Equal(x.Base, []int{0, 0, 1, 1}) || !slices.Equal(x.Graph.Init, []int{0, 1}) || len(x.Graph.Edges) != 6 || err != api.OK {
		t.Error(x, err)
	}
	if l, err := LiftProphecy(example(), prophecy(), []int{0, 1, 0}); !slices.Equal(l, []int{0, 2, 0}) || err != api.OK {
		t.Error(l, err)
	}
	p := prophecy()
	p.Allowed[1] = [][]int{{1, 0}, {1, 1}} // only 1 goes on
	if l, err := LiftProphecy(example(), p, []int{0, 1, 0}); !slices.Equal(l, []int{1, 3, 0}) || err != api.OK {
		t.Error(l, err)
	}
	for i, c := range []struct {
		change  func(p *api.AuxProphecy)
		step, w int
		err     api.Errno
	}{{func(p *api.AuxProphecy) { p.Count = 0 }, 0, 0, api.ErrRange}, {func(p *api.AuxProphecy) { p.Count = 9 }, 0, 0, api.ErrRange}, {func(p *api.AuxProphecy) { p.Allowed = p.Allowed[:1] }, 0, 0, api.ErrShape}, {func(p *api.AuxProphecy) { p.Allowed[1][1] = []int{1} }, 0, 0, api.ErrShape}, {func(p *api.AuxProphecy) { p.Allowed[1][1] = []int{1, 2} }, 0, 0, api.ErrRange}, {func(p *api.AuxProphecy) { p.Allowed[1][1] = []int{0, 0} }, 0, 0, api.ErrOrder}, {func(p *api.AuxProphecy) { p.Allowed[0] = [][]int{{0, 0}} }, 0, 1, api.ErrBroken}, {func(p *api.AuxProphecy) { p.Allowed[1] = nil }, 1, 0, api.ErrBroken}} {
		p := prophecy()
		c.change(&p)
		s, w, err := CheckProphecy(example(), p)
		_, e1 := AddProphecy(example(), p)
		_, e2 := LiftProphecy(example(), p, nil)
		if s != c.step || w != c.w || err != c.err || e1 != c.err || e2 != c.err {
			t.Errorf("%d: %d %d %d %d %d", i, s, w, err, e1, e2)
		}
	}
	var big api.Graph
	big.States, big.Init = 10, []int{0}
	large := api.AuxProphecy{Count: 8}
	var all [][]int
	for v := range 8 {
		for w := range 8 {
			all = append(all, []int{v, w})
		}
	}
	for s := range 10 {
		for to := range 10 {
			big.Edges = append(big.Edges, api.Edge{From: s, To: to})
			large.Allowed = append(large.Allowed, all)
		}
	}
	if _, err := AddProphecy(big, large); err != api.ErrLarge {
		t.Error(err)
	}
}

func TestStutter(t *testing.T) {
	s := api.AuxStutter{Count: []int{2, 0}}
	x, err := AddStutter(example(), s)
	if !slices.Equal(x.Base, []int{0, 0, 0, 1}) || !slices.Equal(x.Aux, []int{0, 1, 2, 0}) || !slices.Equal(x.Graph.Edges, []api.Edge{{From: 0, To: 2, Action: 11}, {From: 1, To: 3}, {From: 2, To: 1, Action: 11}, {From: 3, To: 0, Action: 1}}) || err != api.OK {
		t.Error(x, err)
	}
	if l, err := LiftStutter(example(), s, []int{0, 1}); !slices.Equal(l, []int{0, 2, 1, 3}) || err != api.OK {
		t.Error(l, err)
	}
	for i, c := range []struct {
		path, want []int
		err        api.Errno
	}{{[]int{0, 2, 1, 3}, []int{0, 1}, api.OK}, {[]int{0, 2, 1}, []int{0}, api.OK}, {nil, nil, api.ErrEmpty}, {make([]int, 61), nil, api.ErrLarge}, {[]int{0, 4}, nil, api.ErrRange}, {[]int{1}, nil, api.ErrClash}, {[]int{0, 1}, nil, api.ErrClash}} {
		if l, err := Hidden(x, c.path); !slices.Equal(l, c.want) || err != c.err {
			t.Errorf("%d: %v %d", i, l, err)
		}
	}
	for i, c := range []struct {
		change func(x *api.AuxGraph)
		err    api.Errno
	}{{func(x *api.AuxGraph) { x.Graph.Init = []int{9} }, api.ErrForm}, {func(x *api.AuxGraph) { x.Base = nil }, api.ErrShape}, {func(x *api.AuxGraph) { x.Aux = nil }, api.ErrShape}, {func(x *api.AuxGraph) { x.Base = []int{0, 0, 0, 400} }, api.ErrRange}, {func(x *api.AuxGraph) { x.Aux = []int{0, 1, 8, 0} }, api.ErrRange}, {func(x *api.AuxGraph) { x.Aux = []int{0, 1, 1, 0} }, api.ErrOrder}} {
		y := x
		c.change(&y)
		if _, err := Hidden(y, nil); err != c.err {
			t.Errorf("%d: %d", i, err)
		}
	}
	// several counts in one state: what has begun may end with each of them
	g := api.Graph{States: 3, Init: []int{0}, Edges: []api.Edge{{From: 0, To: 1}, {From: 0, To: 2, Action: 1}}}
	x, _ = AddStutter(g, api.AuxStutter{Count: []int{1, 2}})
	if !slices.Contains(x.Graph.Edges, api.Edge{From: 1, To: 4, Action: 1}) || !slices.Contains(x.Graph.Edges, api.Edge{From: 1, To: 3}) || len(x.Graph.Edges) != 5 {
		t.Error(x)
	}
	_, e1 := AddStutter(g, api.AuxStutter{})
	_, e2 := AddStutter(g, api.AuxStutter{Count: []int{1, 8}})
	_, e3 := LiftStutter(g, api.AuxStutter{}, nil)
	_, e4 := LiftStutter(g, api.AuxStutter{Count: []int{0, 0}}, []int{1})
	_, e5 := AddStutter(api.Graph{States: 31}, api.AuxStutter{})
	if e1 != api.ErrShape || e2 != api.ErrRange || e3 != api.ErrShape || e4 != api.ErrClash || e5 != api.ErrLarge {
		t.Error(e1, e2, e3, e4, e5)
	}
}

func TestByChance(t *testing.T) {
	r := rand.New(rand.NewSource(12))
	for range 500 {
		g := api.Graph{States: 1 + r.Intn(4), Init: []int{0}}
		var h api.AuxHistory
		p := api.AuxProphecy{Count: 1 + r.Intn(3)}
		var st api.AuxStutter
		for s := range g.States {
			h.Start = append(h.Start, r.Intn(3))
			for to := range g.States {
				if r.Intn(2) == 0 {
					continue
				}
				g.Edges = append(g.Edges, api.Edge{From: s, To: to, Action: r.Intn(3)})
				var next []int
				for range 8 {
					next = append(next, r.Intn(8))
				}
				h.Next = append(h.Next, next)
				var allowed [][]int
				for v := range p.Count {
					for w := range p.Count {
						if r.Intn(2) == 0 {
							allowed = append(allowed, []int{v, w})
						}
					}
				}
				p.Allowed = append(p.Allowed, allowed)
				st.Count = append(st.Count, r.Intn(4))
			}
		}
		path := []int{0}
		for range 6 {
			for _, e := range g.Edges {
				if e.From == path[len(path)-1] && r.Intn(2) == 0 {
					path = append(path, e.To)
					break
				}
			}
		}
		check := func(x api.AuxGraph, l []int, err api.Errno) {
			hidden, err2 := Hidden(x, l)
			if err != api.OK || err2 != api.OK || !slices.Equal(hidden, path) {
				t.Fatal(g, path, x, l, hidden, err, err2)
			}
		}
		x, _ := AddHistory(g, h)
		l, err := LiftHistory(g, h, path)
		check(x, l, err)
		x, _ = AddStutter(g, st)
		l, err = LiftStutter(g, st, path)
		check(x, l, err)
		if x, err := AddProphecy(g, p); err == api.OK {
			l, err = LiftProphecy(g, p, path)
			check(x, l, err)
		}
	}
}
