package logs

import (
	"math/rand"
	"reflect"
	"slices"
	"testing"

	"stutter/api"
	"stutter/values"
)

func example() api.StateGraph {
	return api.StateGraph{Graph: api.Graph{States: 3, Init: []int{0}, Edges: []api.Edge{{From: 0, To: 1}, {From: 1, To: 2}, {From: 2, To: 0, Action: 1}}}, Values: []api.State{{values.Int(0)}, {values.Int(1)}, {values.Int(2)}}}
}

// record shows a number (below 0: nothing).
func record(n, action, gap int, stay bool) api.LogRecord {
	r := api.LogRecord{Action: action, Gap: gap, Stay: stay}
	if n >= 0 {
		r.Shown = []api.LogShown{{Value: values.Int(n)}}
	}
	return r
}

func TestExplain(t *testing.T) {
	g := example()
	for i, c := range []struct {
		l      []api.LogRecord
		behind [][]int
	}{
		{nil, nil}, {[]api.LogRecord{record(0, -1, 0, false), record(2, -1, 1, false)}, [][]int{{0}, {2}}}, {[]api.LogRecord{record(0, -1, 0, false), record(2, -1, 0, false)}, [][]int{{0}, {}}}, {[]api.LogRecord{record(-1, -1, 2, false)}, [][]int{{0, 1, 2}}}, {[]api.LogRecord{record(0, -1, 0, false), record(1, -1, 0, false), record(2, 1, 0, false)}, [][]int{{0}, {1}, {}}},
		{[]api.LogRecord{record(0, -1, 0, false), record(0, -1, 0, true)}, [][]int{{0}, {0}}}, {[]api.LogRecord{record(0, -1, 0, false), record(-1, -1, 1, true)}, [][]int{{0}, {0, 1, 2}}}, {[]api.LogRecord{record(0, -1, 0, false), record(-1, -1, 1, false)}, [][]int{{0}, {1, 2}}}, {[]api.LogRecord{record(-1, 0, 0, false)}, [][]int{{}}}, {[]api.LogRecord{record(-1, 0, 1, false)}, [][]int{{1}}}, {[]api.LogRecord{record(-1, -1, 0, false), record(-1, 1, 2, false)}, [][]int{{0}, {0}}},
	} {
		b, err := StatesBehind(g, c.l)
		if len(b) != len(c.behind) || err != api.OK {
			t.Errorf("%d: %v %d", i, b, err)
			continue
		}
		explained := true
		for j := range b {
			if !slices.Equal(b[j], c.behind[j]) {
				t.Errorf("%d: %v", i, b)
			}
			explained = explained && len(b[j]) > 0
		}
		x, err := ExplainedBy(g, c.l)
		if explained != (err == api.OK) || !explained && err != api.ErrNone {
			t.Errorf("%d: %v %d", i, x, err)
		}
		if _, err := CheckExplanation(g, c.l, x); explained && err != api.OK {
			t.Errorf("%d: %v %d", i, x, err)
		}
		if _, _, err := FirstUnexplained(g, c.l); explained != (err == api.ErrNone) {
			t.Errorf("%d: %d", i, err)
		}
	}
	l := []api.LogRecord{record(0, -1, 0, false), record(2, -1, 0, false)}
	if at, from, err := FirstUnexplained(g, l); at != 1 || !slices.Equal(from, []int{0}) || err != api.OK {
		t.Error(at, from, err)
	}
	if at, from, err := FirstUnexplained(g, []api.LogRecord{record(5, -1, 0, false)}); at != 0 || len(from) != 0 || err != api.OK {
		t.Error(at, from, err)
	}
	for i, c := range []struct {
		x   [][]int
		at  int
		err api.Errno
	}{{[][]int{{0}, {1, 2}}, 0, api.OK}, {[][]int{{0}}, 0, api.ErrShape}, {[][]int{{0}, {1, 2, 0}}, 1, api.ErrLarge}, {[][]int{{0}, {}}, 1, api.ErrEmpty}, {[][]int{{}, {1}}, 0, api.ErrEmpty}, {[][]int{{0}, {3}}, 1, api.ErrRange}, {[][]int{{1}, {2}}, 0, api.ErrClash}, {[][]int{{0}, {2}}, 1, api.ErrClash}, {[][]int{{0}, {1}}, 1, api.ErrBroken}} {
		l := []api.LogRecord{record(0, -1, 0, false), record(2, 0, 1, false)}
		if at, err := CheckExplanation(g, l, c.x); at != c.at || err != c.err {
			t.Errorf("%d: %d %d", i, at, err)
		}
	}
	if at, err := CheckExplanation(g, []api.LogRecord{record(0, -1, 0, false), record(2, 1, 1, false)}, [][]int{{0}, {1, 2}}); at != 1 || err != api.ErrKind {
		t.Error(at, err)
	}
	if at, err := CheckExplanation(g, []api.LogRecord{record(0, 0, 0, false)}, [][]int{{0}}); at != 0 || err != api.ErrKind {
		t.Error(at, err)
	}
	if at, err := CheckExplanation(g, []api.LogRecord{record(0, -1, 0, false), record(1, -1, 0, true)}, [][]int{{0}, {}}); at != 1 || err != api.ErrBroken {
		t.Error(at, err)
	}
}

func TestErrors(t *testing.T) {
	for i, c := range []struct {
		change func(g *api.StateGraph, l []api.LogRecord) []api.LogRecord
		at     int
		err    api.Errno
	}{
		{func(g *api.StateGraph, l []api.LogRecord) []api.LogRecord { return l }, 0, api.OK}, {func(g *api.StateGraph, l []api.LogRecord) []api.LogRecord { g.Values = nil; return l }, 0, api.ErrShape}, {func(g *api.StateGraph, l []api.LogRecord) []api.LogRecord { g.Values[0] = g.Values[1]; return l }, 0, api.ErrDouble}, {func(g *api.StateGraph, l []api.LogRecord) []api.LogRecord {
			g.Values[0], g.Values[2] = g.Values[1], api.State{{Kind: 9}}
			return l
		}, 0, api.ErrForm}, {func(g *api.StateGraph, l []api.LogRecord) []api.LogRecord { return make([]api.LogRecord, 31) }, 0, api.ErrLarge},
		{func(g *api.StateGraph, l []api.LogRecord) []api.LogRecord { l[1].Gap = 6; return l }, 1, api.ErrRange}, {func(g *api.StateGraph, l []api.LogRecord) []api.LogRecord { l[1].Gap = -1; return l }, 1, api.ErrRange}, {func(g *api.StateGraph, l []api.LogRecord) []api.LogRecord { l[1].Action = 12; return l }, 1, api.ErrRange}, {func(g *api.StateGraph, l []api.LogRecord) []api.LogRecord { l[1].Action, l[1].Stay = 1, true; return l }, 1, api.ErrClash}, {func(g *api.StateGraph, l []api.LogRecord) []api.LogRecord { l[0].Stay = true; return l }, 0, api.ErrClash},
		{func(g *api.StateGraph, l []api.LogRecord) []api.LogRecord { l[1].Shown[0].Var = 1; return l }, 1, api.ErrRange}, {func(g *api.StateGraph, l []api.LogRecord) []api.LogRecord {
			l[1].Shown = append(l[1].Shown, l[1].Shown[0])
			return l
		}, 1, api.ErrOrder}, {func(g *api.StateGraph, l []api.LogRecord) []api.LogRecord { l[1].Shown[0].Value.Kind = 9; return l }, 1, api.ErrForm},
	} {
		g := example()
		l := c.change(&g, []api.LogRecord{record(0, -1, 0, false), record(1, -1, 0, false)})
		if at, err := CheckLog(g, l); at != c.at || err != c.err {
			t.Errorf("%d: %d %d", i, at, err)
		}
		if c.err == api.OK {
			continue
		}
		_, e1 := StatesBehind(g, l)
		_, e2 := ExplainedBy(g, l)
		at, e3 := CheckExplanation(g, l, nil)
		_, _, e4 := FirstUnexplained(g, l)
		_, e5 := ValuesOf(g, l, -1)
		_, e6 := Weakest(g, l)
		for _, e := range []api.Errno{e1, e2, e3, e4, e5, e6} {
			if e != c.err || at != 0 {
				t.Errorf("%d: %d", i, e)
			}
		}
	}
	big := api.StateGraph{Graph: api.Graph{States: 41}}
	for i := range 41 {
		big.Values = append(big.Values, api.State{values.Int(i)})
	}
	_, e1 := CheckLog(big, nil)
	_, e2 := LogOf(big, nil, nil)
	if e1 != api.ErrLarge || e2 != api.ErrLarge {
		t.Error(e1, e2)
	}
}

func TestMaking(t *testing.T) {
	g := example()
	l, err := LogOf(g, []int{0, 1, 2}, [][]int{{0}, {}, {0}})
	if len(l) != 3 || len(l[1].Shown) != 0 || l[2].Shown[0].Value.N != 2 || l[0].Action != -1 || l[0].Gap != 0 || l[0].Stay || err != api.OK {
		t.Error(l, err)
	}
	for i, c := range []struct {
		path  []int
		shown [][]int
		err   api.Errno
	}{{[]int{0}, nil, api.ErrShape}, {make([]int, 31), make([][]int, 31), api.ErrLarge}, {[]int{3}, [][]int{{9}}, api.ErrRange}, {[]int{0}, [][]int{{1}}, api.ErrRange}, {[]int{0}, [][]int{{0, 0}}, api.ErrOrder}, {nil, nil, api.OK}} {
		if _, err := LogOf(g, c.path, c.shown); err != c.err {
			t.Errorf("%d: %d", i, err)
		}
	}
	if v, err := ValuesOf(g, []api.LogRecord{record(-1, -1, 1, false)}, 0); len(v) != 2 || v[1].N != 1 || err != api.OK {
		t.Error(v, err)
	}
	_, e1 := ValuesOf(g, nil, 1)
	_, e2 := ValuesOf(g, nil, 0)
	if e1 != api.ErrRange || e2 != api.ErrEmpty {
		t.Error(e1, e2)
	}
	w, err := Weakest(g, []api.LogRecord{record(0, -1, 0, false), record(2, -1, 0, false), record(0, -1, 0, false)})
	if len(w) != 2 || len(w[1].Shown) != 0 || err != api.OK {
		t.Error(w, err)
	}
	w, err = Weakest(g, []api.LogRecord{record(0, -1, 0, false), record(2, 1, 0, false)})
	if len(w) != 2 || w[1].Action != -1 || err != api.OK {
		t.Error(w, err)
	}
	w, err = Weakest(g, []api.LogRecord{record(0, -1, 0, false), record(2, 0, 0, false)})
	if len(w) != 2 || w[1].Action != 0 || len(w[1].Shown) != 0 || err != api.OK {
		t.Error(w, err)
	}
	g.Graph.Edges = nil
	if _, err := Weakest(g, []api.LogRecord{record(0, -1, 0, false), record(0, -1, 0, false)}); err != api.ErrNone {
		t.Error(err)
	}
	two := api.StateGraph{Graph: api.Graph{States: 1, Init: []int{0}}, Values: []api.State{{values.Int(1), values.Int(2)}}}
	w, err = Weakest(two, []api.LogRecord{{Action: -1, Shown: []api.LogShown{{Var: 0, Value: values.Int(7)}, {Var: 1, Value: values.Int(2)}}}})
	if len(w) != 1 || len(w[0].Shown) != 1 || w[0].Shown[0].Var != 1 || err != api.OK {
		t.Error(w, err)
	}
}

func TestByChance(t *testing.T) {
	r := rand.New(rand.NewSource(13))
	for range 1000 {
		g := api.StateGraph{Graph: api.Graph{States: 2 + r.Intn(4), Init: []int{0}}}
		for s := range g.Graph.States {
			g.Values = append(g.Values, api.State{values.Int(s), values.Int(s % 2)})
			for to := range g.Graph.States {
				if r.Intn(3) == 0 {
					g.Graph.Edges = append(g.Graph.Edges, api.Edge{From: s, To: to, Action: r.Intn(2)})
				}
			}
		}
		var l []api.LogRecord
		for i := range r.Intn(4) {
			x := api.LogRecord{Action: r.Intn(3) - 1, Gap: r.Intn(3)}
			if r.Intn(2) == 0 {
				x.Shown = []api.LogShown{{Var: 1, Value: values.Int(r.Intn(2))}}
			}
			if i > 0 && r.Intn(3) == 0 {
				x.Action, x.Stay = -1, true
			}
			l = append(l, x)
		}
		x, err := ExplainedBy(g, l)
		_, _, err2 := FirstUnexplained(g, l)
		_, err3 := CheckExplanation(g, l, x)
		if (err == api.OK) != (err2 == api.ErrNone) || err == api.OK && err3 != api.OK {
			t.Fatal(g, l, x, err, err2, err3)
		}
		w, err4 := Weakest(g, l)
		if err4 == api.OK {
			if _, err := ExplainedBy(g, w); err != api.OK {
				t.Fatal("weakest", g, l, w)
			}
		}
		if err == api.OK && !reflect.DeepEqual(w, clone(l)) {
			t.Fatal("not the log", l, w)
		}
		path := []int{0}
		var shown [][]int
		for range 5 {
			for _, e := range g.Graph.Edges {
				if e.From == path[len(path)-1] && r.Intn(2) == 0 {
					path = append(path, e.To)
					break
				}
			}
		}
		for range path {
			shown = append(shown, []int{0, 1})
		}
		l, _ = LogOf(g, path, shown)
		x, err = ExplainedBy(g, l)
		if !slices.Equal(slices.Concat(x...), path) || err != api.OK {
			t.Fatal("path", path, x, err)
		}
	}
}
