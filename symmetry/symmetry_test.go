package symmetry

import (
	"math/rand"
	"slices"
	"strings"
	"testing"

	"stutter/api"
	"stutter/exprs"
	"stutter/value"
	"stutter/values"
)

// perm reads "ab ba": a becomes b, b becomes a.
func perm(s string) api.Permutation {
	var out api.Permutation
	for _, x := range strings.Fields(s) {
		out = append(out, api.Exchange{From: x[:1], To: x[1:]})
	}
	return out
}

func perms(l ...string) (out []api.Permutation) {
	for _, s := range l {
		out = append(out, perm(s))
	}
	return out
}

func state(t *testing.T, s string) api.State {
	t.Helper()
	var out api.State
	for _, x := range strings.Split(s, ";") {
		v, _, err := value.ParseValue(x)
		if err != api.OK {
			t.Fatal(s)
		}
		out = append(out, v)
	}
	return out
}

func text(s api.State) string {
	var out []string
	for _, v := range s {
		x, _ := value.FormatValue(v)
		out = append(out, x)
	}
	return strings.Join(out, ";")
}

func show(p api.Permutation) string {
	var out []string
	for _, x := range p {
		out = append(out, x.From+x.To)
	}
	return strings.Join(out, " ")
}

func TestPermutations(t *testing.T) {
	for s, want := range map[string]api.Errno{"": api.OK, "ab ba": api.OK, "ab bc ca": api.OK, "ab bc cd de ef fa": api.OK, "ab bc cd de ef fg ga": api.ErrLarge, "1b": api.ErrName, "a1": api.ErrName, "ba ab": api.ErrOrder, "ab ac": api.ErrOrder, "aa": api.ErrForm, "ab": api.ErrClash, "ab ca": api.ErrClash, "ab ca ba": api.ErrOrder} {
		if err := CheckPermutation(perm(s)); err != want {
			t.Errorf("%s: %d", s, err)
		}
		_, e1 := Permuted(nil, perm(s))
		_, e2 := Product(perm(s), perm("11"))
		_, e3 := GroupOf(perms("ab ba", s))
		if e1 != want || want != api.OK && (e2 != want || e3 != want) || want == api.OK && e2 != api.ErrName {
			t.Errorf("%s: %d %d %d", s, e1, e2, e3)
		}
	}
	for _, c := range [][3]string{{"{a};1", "ab ba", "{b};1"}, {"(a :> 1 @@ b :> 2)", "ab ba", "(a :> 2 @@ b :> 1)"}, {"{a, b}", "ab ba", "{a, b}"}, {"c;<<a>>", "ab bc ca", "a;<<b>>"}} {
		if s, err := Permuted(state(t, c[0]), perm(c[1])); text(s) != c[2] || err != api.OK {
			t.Errorf("%v: %s %d", c, text(s), err)
		}
	}
	_, e1 := Permuted(make(api.State, 9), perm("11"))
	_, e2 := Permuted(api.State{{Kind: 9}}, perm("11"))
	if e1 != api.ErrLarge || e2 != api.ErrForm {
		t.Error(e1, e2)
	}
	for _, c := range [][3]string{{"ab ba", "ab ba", ""}, {"ab ba", "bc cb", "ac ba cb"}, {"bc cb", "ab ba", "ab bc ca"}, {"", "ab ba", "ab ba"}} {
		if p, err := Product(perm(c[0]), perm(c[1])); show(p) != c[2] || err != api.OK {
			t.Errorf("%v: %s %d", c, show(p), err)
		}
	}
	if _, err := Product(perm("ab ba cd dc"), perm("ef fe gh hg")); err != api.ErrLarge {
		t.Error(err)
	}
}

func TestGroups(t *testing.T) {
	g, err := GroupOf(perms("ab ba", "ab bc ca"))
	var got []string
	for _, p := range g {
		got = append(got, show(p))
	}
	if strings.Join(got, ", ") != ", ab ba, ab bc ca, ac ba cb, ac ca, bc cb" || err != api.OK {
		t.Error(got, err)
	}
	if g, err := GroupOf(nil); len(g) != 1 || err != api.OK {
		t.Error(g, err)
	}
	if g, err := GroupOf(perms("ab ba", "ab bc cd de ea")); len(g) != 120 || err != api.OK {
		t.Error(len(g), err)
	}
	for i, c := range []struct {
		l   []api.Permutation
		err api.Errno
	}{{perms("", "", "", "", ""), api.ErrLarge}, {perms("ab ba", "ab bc cd de ef fa"), api.ErrFull}, {perms("ab ba cd dc", "ef fe gh hg"), api.ErrLarge}, {perms("", "", "", ""), api.OK}} {
		if _, err := GroupOf(c.l); err != c.err {
			t.Errorf("%d: %d", i, err)
		}
		_, e1 := OrbitOf(nil, c.l)
		_, _, e2 := RepresentativeOf(nil, c.l)
		_, e3 := CheckSymmetric(api.StateGraph{}, c.l)
		if e1 != c.err || e2 != c.err || e3 != c.err {
			t.Errorf("%d: %d %d %d", i, e1, e2, e3)
		}
	}
	p := perms("ab ba")
	if s, by, err := RepresentativeOf(state(t, "{b};1"), p); text(s) != "{a};1" || show(by) != "ab ba" || err != api.OK {
		t.Error(text(s), show(by), err)
	}
	if s, by, err := RepresentativeOf(state(t, "{a};1"), p); text(s) != "{a};1" || show(by) != "" || err != api.OK {
		t.Error(text(s), show(by), err)
	}
	if l, err := OrbitOf(state(t, "b"), perms("ab bc ca")); len(l) != 3 || text(l[0]) != "a" || text(l[2]) != "c" || err != api.OK {
		t.Error(l, err)
	}
	_, e1 := OrbitOf(make(api.State, 9), perms("11"))
	_, _, e2 := RepresentativeOf(api.State{{Kind: 9}}, perms("11"))
	if e1 != api.ErrLarge || e2 != api.ErrForm {
		t.Error(e1, e2)
	}
}

func TestSymmetryOf(t *testing.T) {
	choose := exprs.Make(api.Node{Kind: api.ExprChoose, Names: []string{"x"}}, exprs.Name("S"), exprs.Name("x"))
	spec := func() api.Spec {
		return api.Spec{Constants: []api.Binding{{Name: "S", Value: state(t, "{a, b}")[0]}, {Name: "k"}}, Defs: []api.Def{{Body: exprs.Name("S")}}, Init: exprs.Name("S"), Next: exprs.Name("S")}
	}
	for i, c := range []struct {
		change func(s *api.Spec)
		l      []api.Permutation
		n      int
		err    api.Errno
	}{{func(*api.Spec) {}, perms("ab ba"), 2, api.OK}, {func(s *api.Spec) { s.Constants = make([]api.Binding, 9) }, nil, 0, api.ErrLarge}, {func(s *api.Spec) { s.Defs = make([]api.Def, 41) }, nil, 0, api.ErrLarge}, {func(s *api.Spec) { s.Constants[1].Value.N = 7 }, nil, 0, api.ErrForm}, {func(s *api.Spec) { s.Defs[0].Body = nil }, nil, 0, api.ErrEmpty}, {func(s *api.Spec) { s.Init = nil }, nil, 0, api.ErrEmpty}, {func(s *api.Spec) { s.Next = nil }, perms("11"), 0, api.ErrEmpty}, {func(s *api.Spec) {}, perms("11"), 0, api.ErrName},
		{func(s *api.Spec) { s.Constants[1].Value = values.Model("a") }, perms("", "ab ba"), 1, api.ErrClash}, {func(s *api.Spec) { s.Defs[0].Body = choose; s.Next = choose }, perms("ab ba"), 0, api.ErrRefused}, {func(s *api.Spec) { s.Init = choose }, nil, 1, api.ErrRefused}, {func(s *api.Spec) { s.Next = choose }, nil, 2, api.ErrRefused}, {func(s *api.Spec) {}, perms("ac ca"), 0, api.ErrClash}} {
		s := spec()
		c.change(&s)
		if n, err := SymmetryOf(s, c.l); n != c.n || err != c.err {
			t.Errorf("%d: %d %d", i, n, err)
		}
	}
}

func example(t *testing.T) api.StateGraph {
	return api.StateGraph{Graph: api.Graph{States: 3, Init: []int{2}, Edges: []api.Edge{{From: 2, To: 0}, {From: 2, To: 1}}}, Values: []api.State{state(t, "{a}"), state(t, "{b}"), state(t, "{}")}}
}

func TestGraphs(t *testing.T) {
	p := perms("ab ba")
	for i, c := range []struct {
		change func(g *api.StateGraph)
		at     int
		err    api.Errno
	}{{func(*api.StateGraph) {}, 0, api.OK}, {func(g *api.StateGraph) { g.Graph.Init = []int{3} }, 0, api.ErrForm}, {func(g *api.StateGraph) { g.Values = g.Values[:2] }, 0, api.ErrShape}, {func(g *api.StateGraph) { g.Values[1] = nil }, 0, api.ErrShape}, {func(g *api.StateGraph) { g.Values[1] = api.State{{Kind: 9}} }, 0, api.ErrForm}, {func(g *api.StateGraph) { g.Values[1] = g.Values[0] }, 0, api.ErrDouble}, {func(g *api.StateGraph) { g.Values[0] = api.State{values.Int(1)} }, 1, api.ErrMissing}, {func(g *api.StateGraph) { g.Graph.Init = []int{1, 2} }, 0, api.ErrBroken}, {func(g *api.StateGraph) { g.Graph.Edges = g.Graph.Edges[:1] }, 0, api.ErrBroken}, {func(g *api.StateGraph) { g.Graph.Edges[1].Action = 1 }, 0, api.ErrBroken}} {
		g := example(t)
		c.change(&g)
		if at, err := CheckSymmetric(g, p); at != c.at || err != c.err {
			t.Errorf("%d: %d %d", i, at, err)
		}
		_, _, e1 := QuotientOf(g, p)
		_, e2 := Lifted(g, p, []int{1, 0})
		if e1 != c.err || e2 != c.err {
			t.Errorf("%d: %d %d", i, e1, e2)
		}
	}
	g := example(t)
	q, of, err := QuotientOf(g, p)
	if q.Graph.States != 2 || !slices.Equal(q.Graph.Init, []int{1}) || !slices.Equal(q.Graph.Edges, []api.Edge{{From: 1, To: 0}}) || text(q.Values[0]) != "{a}" || !slices.Equal(of, []int{0, 0, 1}) || err != api.OK {
		t.Error(q, of, err)
	}
	if l, err := Lifted(g, p, []int{1, 0}); !slices.Equal(l, []int{2, 0}) || err != api.OK {
		t.Error(l, err)
	}
	for i, path := range [][]int{nil, {0}, {1, 1}, {1, 0, 0}, {1, 7}} {
		if _, err := Lifted(g, p, path); err != api.ErrMissing {
			t.Errorf("%d: %d", i, err)
		}
	}
	if _, err := Lifted(g, p, make([]int, 61)); err != api.ErrLarge {
		t.Error(err)
	}
}

// TestEachState has a wrong state behind two that are the same: the error of each state is listed before ErrDouble.
func TestEachState(t *testing.T) {
	large := make(api.State, 9)
	for i, c := range []struct {
		l   []api.State
		err api.Errno
	}{{[]api.State{{values.Int(1)}, {values.Int(1)}, {values.Int(10001)}}, api.ErrForm}, {[]api.State{large, large, large}, api.ErrLarge}, {[]api.State{{values.Int(1)}, {values.Int(1)}, {{Kind: 9}}}, api.ErrForm}, {[]api.State{{values.Int(1)}, {values.Int(2)}, {values.Int(1)}}, api.ErrDouble}, {[]api.State{{}, {}}, api.ErrDouble}, {[]api.State{{values.Int(1)}, {values.Int(1)}, {}}, api.ErrShape}} {
		g := api.StateGraph{Graph: api.Graph{States: len(c.l)}, Values: c.l}
		at, e1 := CheckSymmetric(g, perms("11"))
		_, _, e2 := QuotientOf(g, perms("11"))
		_, e3 := Lifted(g, perms("11"), nil)
		if at != 0 || e1 != c.err || e2 != c.err || e3 != c.err {
			t.Errorf("%d: %d %d %d %d", i, at, e1, e2, e3)
		}
	}
}

func TestByChance(t *testing.T) {
	r := rand.New(rand.NewSource(8))
	l := perms("ab ba", "ab bc ca")
	group, _ := GroupOf(l)
	texts := []string{"{a};<<b, c>>", "(a :> 1 @@ c :> 2);b", "{};1", "{{a}, {b, c}};a"}
	for range 50 {
		p, q := group[r.Intn(6)], group[r.Intn(6)]
		s := state(t, texts[r.Intn(4)])
		pq, _ := Product(p, q)
		once, _ := Permuted(s, p)
		twice, _ := Permuted(once, q)
		both, _ := Permuted(s, pq)
		if !values.SameState(twice, both) || !slices.ContainsFunc(group, func(x api.Permutation) bool { return slices.Equal(x, pq) }) {
			t.Fatal(show(p), show(q))
		}
		a, by, _ := RepresentativeOf(s, l)
		b, _, _ := RepresentativeOf(once, l)
		c, none, _ := RepresentativeOf(a, l)
		made, _ := Permuted(s, by)
		if !values.SameState(a, b) || !values.SameState(a, c) || !values.SameState(a, made) || len(none) != 0 {
			t.Fatal(text(a), text(b), text(c))
		}
		if !slices.ContainsFunc(group, func(x api.Permutation) bool { y, _ := Product(p, x); return len(y) == 0 }) {
			t.Fatal("no inverse")
		}
	}
	// a closed graph is symmetric under the group, and its quotient reaches the same
	g := api.StateGraph{Values: []api.State{state(t, "{}")}}
	for _, s := range []string{"{a}", "{b}", "{c}", "{a, b}", "{a, c}", "{b, c}"} {
		g.Values = append(g.Values, state(t, s))
	}
	g.Graph = api.Graph{States: 7, Init: []int{0}, Edges: []api.Edge{{From: 0, To: 1}, {From: 0, To: 2}, {From: 0, To: 3}, {From: 1, To: 4, Action: 1}, {From: 1, To: 5, Action: 1}, {From: 2, To: 4, Action: 1}, {From: 2, To: 6, Action: 1}, {From: 3, To: 5, Action: 1}, {From: 3, To: 6, Action: 1}}}
	if _, err := CheckSymmetric(g, group[:4]); err != api.OK {
		t.Error(err)
	}
	q, of, err := QuotientOf(g, l)
	if q.Graph.States != 3 || len(q.Graph.Edges) != 2 || err != api.OK {
		t.Error(q, of, err)
	}
	path, err := Lifted(g, l, []int{0, 1, 2})
	if !slices.Equal(path, []int{0, 1, 4}) || err != api.OK {
		t.Error(path, err)
	}
}
