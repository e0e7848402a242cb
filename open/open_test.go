package open

import (
	"math/rand"
	"reflect"
	"slices"
	"testing"

	"stutter/api"
)

func component() api.Component {
	return api.Component{States: 2, Init: []int{0}, Out: []int{0, 1}, Moves: []api.OpenMove{{From: 0, In: 0, To: 0}, {From: 0, In: 1, To: 1}, {From: 1, In: 0, To: 1}, {From: 1, In: 1, To: 1}, {From: 1, In: 2, To: 1}}}
}

// zero is broken by pairs whose Out is not 0.
func zero() api.Watch { return api.Watch{{{0, -1, -1}, {0, -1, -1}, {0, -1, -1}}} }

func never() api.Watch { return api.Watch{{{0, 0, 0}, {0, 0, 0}, {0, 0, 0}}} }

func turn(w api.Watch) api.Watch {
	out, _ := Turned(w)
	return out
}

func TestChecks(t *testing.T) {
	for i, c := range []struct {
		change func(c *api.Component)
		err    api.Errno
	}{{func(*api.Component) {}, api.OK}, {func(c *api.Component) { *c = api.Component{} }, api.OK}, {func(c *api.Component) { c.States = 11 }, api.ErrRange}, {func(c *api.Component) { c.States = -1 }, api.ErrRange}, {func(c *api.Component) { c.Moves = make([]api.OpenMove, 61) }, api.ErrLarge}, {func(c *api.Component) { c.Out = nil }, api.ErrShape}, {func(c *api.Component) { c.Out[1] = 3 }, api.ErrRange}, {func(c *api.Component) { c.Init = []int{1, 0} }, api.ErrForm}, {func(c *api.Component) { c.Init = []int{2} }, api.ErrForm}, {func(c *api.Component) { c.Moves[0].In = 3 }, api.ErrRange}, {func(c *api.Component) { c.Moves[4].To = 2 }, api.ErrRange}, {func(c *api.Component) { c.Moves[1] = c.Moves[0] }, api.ErrOrder}} {
		x := component()
		c.change(&x)
		if err := CheckComponent(x); err != c.err {
			t.Errorf("%d: %d", i, err)
		}
		if c.err == api.OK {
			continue
		}
		_, e1 := CheckRun(x, api.OpenRun{})
		_, e2 := ViolationOf(x, nil, nil)
		_, _, e3 := Composed(component(), x)
		_, e4 := CheckRule(api.OpenRule{A: x})
		_, e5 := BrokenIn(api.OpenRule{A: component(), AssumeA: never(), GuaranteeA: never(), B: x})
		if e1 != c.err || e2 != c.err || e3 != c.err || e4 != c.err || e5 != c.err {
			t.Errorf("%d: %d %d %d %d %d", i, e1, e2, e3, e4, e5)
		}
	}
	for i, c := range []struct {
		w   api.Watch
		err api.Errno
	}{{nil, api.ErrEmpty}, {make(api.Watch, 7), api.ErrLarge}, {api.Watch{nil}, api.ErrShape}, {api.Watch{{{0, 0, 0}, {0, 0}, {0, 0, 0}}}, api.ErrShape}, {api.Watch{{{0, 0, 0}, {0, 0, 1}, {0, 0, 0}}}, api.ErrRange}, {api.Watch{{{0, 0, 0}, {0, 0, -2}, {0, 0, 0}}}, api.ErrRange}} {
		_, e1 := BrokenAt(c.w, make([]api.OpenPair, 61))
		_, e2 := ViolationOf(component(), never(), c.w)
		_, e3 := UnimpliedBy([]api.Watch{never()}, c.w)
		_, e4 := Turned(c.w)
		_, e5 := CheckRule(api.OpenRule{A: component(), AssumeA: c.w})
		if err := CheckWatch(c.w); err != c.err || e1 != c.err || e2 != c.err || e3 != c.err || e4 != c.err || e5 != c.err {
			t.Errorf("%d: %d %d %d %d %d %d", i, err, e1, e2, e3, e4, e5)
		}
	}
	_, e1 := UnimpliedBy(make([]api.Watch, 4), nil)
	_, e2 := BrokenAt(never(), make([]api.OpenPair, 61))
	_, e3 := BrokenAt(never(), []api.OpenPair{{In: 3}})
	_, e4 := BrokenAt(never(), []api.OpenPair{{In: 2}})
	if e1 != api.ErrLarge || e2 != api.ErrLarge || e3 != api.ErrRange || e4 != api.ErrNone {
		t.Error(e1, e2, e3, e4)
	}
	if at, err := BrokenAt(zero(), []api.OpenPair{{In: 1}, {Out: 1}, {Out: 2}}); at != 1 || err != api.OK {
		t.Error(at, err)
	}
}

func TestRuns(t *testing.T) {
	pairs := func(l ...int) (out []api.OpenPair) {
		for i := 0; i < len(l); i += 2 {
			out = append(out, api.OpenPair{In: l[i], Out: l[i+1]})
		}
		return out
	}
	for i, c := range []struct {
		r   api.OpenRun
		n   int
		err api.Errno
	}{{api.OpenRun{States: []int{0, 1, 1}, Pairs: pairs(1, 0, 0, 1)}, 2, api.OK}, {api.OpenRun{States: []int{0}}, 0, api.OK}, {api.OpenRun{Pairs: make([]api.OpenPair, 61)}, 0, api.ErrLarge}, {api.OpenRun{Pairs: pairs(0, 3)}, 0, api.ErrRange}, {api.OpenRun{}, 0, api.ErrShape}, {api.OpenRun{States: []int{0, 2}, Pairs: pairs(0, 0)}, 0, api.ErrRange}, {api.OpenRun{States: []int{1}}, 0, api.ErrMissing}, {api.OpenRun{States: []int{0, 1, 0}, Pairs: pairs(1, 0, 0, 1)}, 1, api.ErrClash}, {api.OpenRun{States: []int{0, 1}, Pairs: pairs(1, 1)}, 0, api.ErrClash}} {
		if n, err := CheckRun(component(), c.r); n != c.n || err != c.err {
			t.Errorf("%d: %d %d", i, n, err)
		}
	}
	r, err := ViolationOf(component(), never(), zero())
	if !slices.Equal(r.States, []int{0, 1, 1}) || !slices.Equal(r.Pairs, pairs(1, 0, 0, 1)) || err != api.OK {
		t.Error(r, err)
	}
	if _, err := ViolationOf(component(), turn(zero()), zero()); err != api.ErrNone {
		t.Error(err)
	}
	// the last pair may break the assumption, too
	all := api.Watch{{{-1, -1, -1}, {-1, -1, -1}, {-1, -1, -1}}}
	if r, err := ViolationOf(component(), all, all); len(r.Pairs) != 1 || r.States[1] != 0 || err != api.OK {
		t.Error(r, err)
	}
	g, l, err := Composed(component(), component())
	if g.States != 1 || !slices.Equal(g.Edges, []api.Edge{{}}) || !slices.Equal(g.Init, []int{0}) || !reflect.DeepEqual(l, [][]int{{0, 0}}) || err != api.OK {
		t.Error(g, l, err)
	}
	one := component()
	one.Init = []int{0, 1}
	g, l, err = Composed(one, component())
	if g.States != 3 || !reflect.DeepEqual(l, [][]int{{0, 0}, {1, 0}, {1, 1}}) || len(g.Edges) != 3 || !slices.Equal(g.Init, []int{0, 1}) || err != api.OK {
		t.Error(g, l, err)
	}
}

func TestRules(t *testing.T) {
	if l, err := UnimpliedBy([]api.Watch{zero()}, turn(zero())); !slices.Equal(l, []api.OpenPair{{In: 1, Out: 0}}) || err != api.OK {
		t.Error(l, err)
	}
	if _, err := UnimpliedBy([]api.Watch{never(), zero()}, zero()); err != api.ErrNone {
		t.Error(err)
	}
	second := api.Watch{{{1, 1, 1}, {1, 1, 1}, {1, 1, 1}}, {{0, 0, 0}, {0, -1, 0}, {0, 0, 0}}}
	if l, err := UnimpliedBy(nil, second); !slices.Equal(l, []api.OpenPair{{}, {In: 1, Out: 1}}) || err != api.OK {
		t.Error(l, err)
	}
	x := api.OpenRule{A: component(), B: component(), AssumeA: turn(zero()), AssumeB: turn(zero()), GuaranteeA: zero(), GuaranteeB: zero()}
	if f, err := CheckRule(x); err != api.OK {
		t.Error(f, err)
	}
	if _, err := BrokenIn(x); err != api.ErrNone {
		t.Error(err)
	}
	for want, change := range map[int]func(x *api.OpenRule){1: func(x *api.OpenRule) { x.AssumeA = never() }, 2: func(x *api.OpenRule) { x.AssumeB = never() }, 3: func(x *api.OpenRule) { x.GuaranteeB, x.AssumeB = never(), never() }, 4: func(x *api.OpenRule) { x.GuaranteeA, x.AssumeA = never(), never() }} {
		y := x
		change(&y)
		f, err := CheckRule(y)
		if f.Premise != want || err != api.ErrBroken || (len(f.Run.Pairs) > 0) != (want < 3) || (len(f.Pairs) > 0) != (want > 2) {
			t.Errorf("%d: %v %d", want, f, err)
		}
	}
	y := x
	y.A.Init = []int{1}
	if l, err := BrokenIn(y); !reflect.DeepEqual(l, [][]int{{1, 0}, {1, 1}}) || err != api.OK {
		t.Error(l, err)
	}
}

func TestByChance(t *testing.T) {
	r := rand.New(rand.NewSource(14))
	watch := func() api.Watch {
		w := make(api.Watch, 1+r.Intn(3))
		for s := range w {
			for range 3 {
				var l []int
				for range 3 {
					l = append(l, r.Intn(len(w)+1)-r.Intn(5)/4)
					l[len(l)-1] = min(max(l[len(l)-1], -1), len(w)-1)
				}
				w[s] = append(w[s], l)
			}
		}
		return w
	}
	some := func() api.Component {
		c := api.Component{States: 1 + r.Intn(4), Init: []int{0}}
		for s := range c.States {
			c.Out = append(c.Out, r.Intn(3))
			for in := range 3 {
				for to := range c.States {
					if r.Intn(3) == 0 {
						c.Moves = append(c.Moves, api.OpenMove{From: s, In: in, To: to})
					}
				}
			}
		}
		return c
	}
	sound := 0
	for range 3000 {
		x := api.OpenRule{A: some(), B: some(), AssumeA: watch(), AssumeB: watch(), GuaranteeA: watch(), GuaranteeB: watch()}
		if !reflect.DeepEqual(turn(turn(x.AssumeA)), x.AssumeA) {
			t.Fatal("turned")
		}
		if run, err := ViolationOf(x.A, x.AssumeA, x.GuaranteeA); err == api.OK {
			n, err := CheckRun(x.A, run)
			_, e1 := BrokenAt(x.AssumeA, run.Pairs[:n-1])
			at, e2 := BrokenAt(x.GuaranteeA, run.Pairs)
			if err != api.OK || e1 != api.ErrNone || e2 != api.OK || at != n-1 {
				t.Fatal(x, run)
			}
		}
		if _, err := CheckRule(x); err == api.OK {
			sound++
			if l, err := BrokenIn(x); err != api.ErrNone {
				t.Fatal("not sound", x, l)
			}
		}
		l, err := UnimpliedBy([]api.Watch{x.GuaranteeA, x.GuaranteeB}, x.AssumeA)
		if err == api.OK {
			_, e1 := BrokenAt(x.GuaranteeA, l)
			_, e2 := BrokenAt(x.GuaranteeB, l)
			at, e3 := BrokenAt(x.AssumeA, l)
			if e1 != api.ErrNone || e2 != api.ErrNone || e3 != api.OK || at != len(l)-1 {
				t.Fatal(x, l)
			}
		}
	}
	if sound == 0 {
		t.Error("no rule holds")
	}
}
