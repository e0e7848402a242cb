package lasso

import (
	"math/rand"
	"reflect"
	"slices"
	"strings"
	"testing"

	"stutter/api"
)

func read(t *testing.T, s string) api.Formula {
	t.Helper()
	f, at, err := ParseFormula(s)
	if err != api.OK || at != len(s) {
		t.Fatalf("%s: %d %d", s, at, err)
	}
	return f
}

func word(prefix []int, loop ...int) api.Word { return api.Word{Prefix: prefix, Loop: loop} }

func TestCheckFormula(t *testing.T) {
	p := api.FormulaNode{Kind: api.FormulaAtom}
	many := func(n int) api.Formula {
		f := api.Formula{p}
		for i := range n - 1 {
			f = append(f, api.FormulaNode{Kind: api.FormulaNot, Args: []int{i}})
		}
		return f
	}
	for i, c := range []struct {
		f   api.Formula
		at  int
		err api.Errno
	}{{nil, 0, api.ErrEmpty}, {many(40), 0, api.OK}, {many(41), 0, api.ErrLarge}, {api.Formula{p, {Kind: -1}}, 1, api.ErrKind}, {api.Formula{p, {Kind: api.FormulaKinds}}, 1, api.ErrKind}, {api.Formula{p, {Kind: api.FormulaAnd, Args: []int{0}}}, 1, api.ErrShape}, {api.Formula{p, {Kind: api.FormulaAnd, Args: []int{0, 0}}}, 1, api.ErrShape}, {api.Formula{p, p, {Kind: api.FormulaAnd, Args: []int{1, 0}}}, 2, api.ErrShape},
		{api.Formula{{Kind: api.FormulaAtom, N: 11}}, 0, api.OK}, {api.Formula{{Kind: api.FormulaAtom, N: 12}}, 0, api.ErrRange}, {api.Formula{{Kind: api.FormulaAtom, N: -1}}, 0, api.ErrRange}, {api.Formula{{N: 1}}, 0, api.ErrRange}, {api.Formula{p, p}, 1, api.ErrOpen}, {api.Formula{p, {Kind: api.FormulaTrue, Args: []int{0}}}, 1, api.ErrShape}, {api.Formula{p, {Kind: api.FormulaNot, Args: []int{1}}}, 1, api.ErrShape}} {
		if at, err := CheckFormula(c.f); at != c.at || err != c.err {
			t.Errorf("%d: %d %d", i, at, err)
		}
		if c.err == api.OK {
			continue
		}
		_, e1 := HoldsOn(c.f, api.Word{})
		_, e2 := TruthsOn(c.f, api.Word{})
		_, e3 := IsGuarded(c.f, make([]int, 13))
		_, e4 := FormatFormula(c.f)
		_, e5 := FirstAgainst(api.Labelled{}, c.f, 0)
		for _, e := range []api.Errno{e1, e2, e3, e4, e5} {
			if e != c.err {
				t.Errorf("%d: %d", i, e)
			}
		}
	}
	for i, c := range []struct {
		w   api.Word
		err api.Errno
	}{{word(nil), api.ErrEmpty}, {word(make([]int, 59), 1), api.OK}, {word(make([]int, 60), 1), api.ErrLarge}, {word(nil, 4095), api.OK}, {word(nil, 4096), api.ErrRange}, {word([]int{-1}, 1), api.ErrRange}} {
		if err := CheckWord(c.w); err != c.err {
			t.Errorf("%d: %d", i, err)
		}
		_, e1 := Shortest(c.w)
		_, e2 := Unstuttered(c.w)
		_, e3 := HoldsOn(read(t, "true"), c.w)
		if e1 != c.err || e2 != c.err || e3 != c.err {
			t.Errorf("%d: %d %d %d", i, e1, e2, e3)
		}
	}
}

func TestMeaning(t *testing.T) {
	w := word([]int{0, 1}, 2, 0)
	for s, want := range map[string]string{"true": "TTTT", "p0": "FTFF", "p1": "FFTF", "!p1": "TTFT", "(p0 & !p1)": "FTFF", "(p0 | p1)": "FTTF", "(p0 -> p1)": "TFTT", "[]p1": "FFFF", "[]!p0": "FFTT", "<>p0": "TTFF", "<>p1": "TTTT", "[]<>p1": "TTTT", "<>[]p1": "FFFF", "(p0 ~> p1)": "TTTT", "(p1 ~> p0)": "FFFF", "(!p1 U p0)": "TTFF", "(true U p1)": "TTTT", "(p0 U p1)": "FTTF", "(p1 U !p1)": "TTTT", "(!p0 U p1)": "FFTT"} {
		l, err := TruthsOn(read(t, s), w)
		got := ""
		for _, b := range l {
			got += map[bool]string{true: "T", false: "F"}[b]
		}
		if got != want || err != api.OK {
			t.Errorf("%s: %s %d", s, got, err)
		}
		if is, _ := HoldsOn(read(t, s), w); is != (want[0] == 'T') {
			t.Errorf("%s: %v", s, is)
		}
	}
}

func TestWords(t *testing.T) {
	for i, c := range []struct{ w, short, still api.Word }{
		{word([]int{1, 1, 2}, 3, 2, 2), word([]int{1}, 1, 2, 3), word([]int{1}, 2, 3)}, {word([]int{1, 2}, 1, 2, 1, 2), word(nil, 1, 2), word(nil, 1, 2)}, {word([]int{3, 3}, 3, 3), word(nil, 3), word(nil, 3)}, {word([]int{1, 3, 3}, 3, 3), word([]int{1}, 3), word([]int{1}, 3)}, {word(nil, 1, 1, 2), word(nil, 1, 1, 2), word(nil, 1, 2)}, {word([]int{5}, 1, 2, 1), word([]int{5}, 1, 2, 1), word([]int{5}, 1, 2)},
	} {
		if i == 0 {
			c.short = word([]int{1, 1}, 2, 3, 2)
		}
		if s, err := Shortest(c.w); !slices.Equal(s.Prefix, c.short.Prefix) || !slices.Equal(s.Loop, c.short.Loop) || err != api.OK {
			t.Errorf("%d: %v", i, s)
		}
		if s, err := Unstuttered(c.w); !slices.Equal(s.Prefix, c.still.Prefix) || !slices.Equal(s.Loop, c.still.Loop) || err != api.OK {
			t.Errorf("%d: still %v", i, s)
		}
	}
}

func TestGuarded(t *testing.T) {
	for s, want := range map[string]bool{"p0": true, "p1": false, "<>p1": true, "[]!p1": true, "!p1": false, "[]p1": false, "<>!p1": false, "([]<>p1 -> p0)": true, "(<>p1 & p1)": false, "(p1 U p0)": false, "[]<>p1": true} {
		if is, err := IsGuarded(read(t, s), []int{1, 3}); is != want || err != api.OK {
			t.Errorf("%s: %v %d", s, is, err)
		}
	}
	_, e1 := IsGuarded(read(t, "p0"), make([]int, 13))
	_, e2 := IsGuarded(read(t, "p0"), []int{12})
	_, e3 := IsGuarded(read(t, "p0"), make([]int, 12))
	if e1 != api.ErrLarge || e2 != api.ErrRange || e3 != api.OK {
		t.Error(e1, e2, e3)
	}
}

func graph() api.Labelled {
	return api.Labelled{Graph: api.Graph{States: 3, Init: []int{0}, Edges: []api.Edge{{From: 0, To: 1}, {From: 0, To: 1, Action: 1}, {From: 1, To: 0}, {From: 1, To: 1, Action: 1}, {From: 1, To: 2, Action: 1}}}, Labels: []int{0, 1, 2}, Steps: []int{2, 3}, Enabled: []int{4, api.None}}
}

func TestCheckLabels(t *testing.T) {
	for i, c := range []struct {
		change func(*api.Labelled)
		at     int
		err    api.Errno
	}{
		{func(*api.Labelled) {}, 0, api.OK}, {func(x *api.Labelled) { x.Graph.States = -1 }, 0, api.ErrForm}, {func(x *api.Labelled) { x.Graph.Init = []int{3} }, 0, api.ErrForm}, {func(x *api.Labelled) { x.Graph.Init = []int{1, 1} }, 0, api.ErrForm}, {func(x *api.Labelled) { x.Graph.Edges[1] = x.Graph.Edges[0] }, 0, api.ErrForm}, {func(x *api.Labelled) { x.Graph.Edges[4].To = 3 }, 0, api.ErrForm}, {func(x *api.Labelled) { x.Graph.Edges[4].Action = 12 }, 0, api.ErrForm}, {func(x *api.Labelled) { x.Graph.Edges[0].From = -1 }, 0, api.ErrForm},
		{func(x *api.Labelled) { x.Graph.States = 61 }, 0, api.ErrLarge}, {func(x *api.Labelled) { x.Labels = x.Labels[:2] }, 0, api.ErrShape}, {func(x *api.Labelled) { x.Enabled = x.Enabled[:1] }, 0, api.ErrShape}, {func(x *api.Labelled) { x.Steps, x.Enabled = make([]int, 13), make([]int, 13) }, 0, api.ErrShape}, {func(x *api.Labelled) { x.Labels[1] = 4096 }, 1, api.ErrRange}, {func(x *api.Labelled) { x.Steps[1] = 12 }, 1, api.ErrRange}, {func(x *api.Labelled) { x.Enabled[1] = -2 }, 1, api.ErrRange},
		{func(x *api.Labelled) { x.Graph.Edges[3].Action = 2 }, 3, api.ErrMissing}, {func(x *api.Labelled) { x.Weak = []int{0, 2} }, 1, api.ErrMissing}, {func(x *api.Labelled) { x.Weak = []int{1, 0} }, 1, api.ErrOrder}, {func(x *api.Labelled) { x.Strong = []int{-1} }, 0, api.ErrMissing}, {func(x *api.Labelled) { x.Strong = []int{0, 1, 1} }, 2, api.ErrOrder},
		{func(x *api.Labelled) {
			x.Steps, x.Enabled = make([]int, 7), make([]int, 7)
			x.Weak, x.Strong = []int{0, 1, 2}, []int{0, 1, 2, 3}
		}, 0, api.ErrLarge},
	} {
		x := graph()
		c.change(&x)
		if at, err := CheckLabels(x); at != c.at || err != c.err {
			t.Errorf("%d: %d %d", i, at, err)
		}
		if c.err == api.OK {
			continue
		}
		at, e1 := CheckLasso(x, api.Lasso{})
		_, e2 := WordOf(x, api.Lasso{})
		_, e3 := IsFair(x, api.Lasso{})
		_, e4 := FirstAgainst(x, nil, 0)
		if e1 != c.err || e2 != c.err || e3 != c.err || e4 != c.err || at != 0 {
			t.Errorf("%d: %d %d %d %d", i, e1, e2, e3, e4)
		}
	}
}

func TestBehaviours(t *testing.T) {
	for i, c := range []struct {
		l   api.Lasso
		at  int
		err api.Errno
	}{{api.Lasso{Prefix: []int{0}, Loop: []int{1, 0}}, 0, api.OK}, {api.Lasso{Prefix: []int{0}}, 0, api.ErrEmpty}, {api.Lasso{Loop: make([]int, 60)}, 0, api.OK}, {api.Lasso{Loop: make([]int, 61)}, 0, api.ErrLarge}, {api.Lasso{Prefix: []int{2}, Loop: []int{3}}, 1, api.ErrRange}, {api.Lasso{Loop: []int{1}}, 0, api.ErrState}, {api.Lasso{Prefix: []int{0}, Loop: []int{2}}, 0, api.ErrMissing}, {api.Lasso{Loop: []int{0, 1, 2}}, 2, api.ErrMissing}, {api.Lasso{Prefix: []int{0, 1}, Loop: []int{2}}, 0, api.OK}} {
		if at, err := CheckLasso(graph(), c.l); at != c.at || err != c.err {
			t.Errorf("%d: %d %d", i, at, err)
		}
		if _, err := WordOf(graph(), c.l); err != c.err {
			t.Errorf("%d: word %d", i, err)
		}
		if _, err := IsFair(graph(), c.l); err != c.err {
			t.Errorf("%d: fair %d", i, err)
		}
	}
	w, err := WordOf(graph(), api.Lasso{Prefix: []int{0, 0, 1}, Loop: []int{1, 0, 1, 1}})
	if !slices.Equal(w.Prefix, []int{16, 16 + 4 + 8, 1 + 16}) || !slices.Equal(w.Loop, []int{1 + 16 + 4, 16 + 4 + 8, 1 + 16, 1 + 16}) || err != api.OK {
		t.Error(w, err)
	}
	for i, c := range []struct {
		l            api.Lasso
		weak, strong string
		want         bool
	}{{api.Lasso{Loop: []int{0}}, "", "", true}, {api.Lasso{Loop: []int{0}}, "0", "", false}, {api.Lasso{Loop: []int{0, 1}}, "01", "01", true}, {api.Lasso{Prefix: []int{0}, Loop: []int{1}}, "1", "", false}, {api.Lasso{Prefix: []int{0, 1}, Loop: []int{2}}, "01", "01", true}, {api.Lasso{Loop: []int{0}}, "", "1", false}} {
		x := graph()
		for _, a := range c.weak {
			x.Weak = append(x.Weak, int(a-'0'))
		}
		for _, a := range c.strong {
			x.Strong = append(x.Strong, int(a-'0'))
		}
		if is, err := IsFair(x, c.l); is != c.want || err != api.OK {
			t.Errorf("%d: %v %d", i, is, err)
		}
	}
	// an action that comes and goes is weakly, but not strongly, fair without its steps
	x := graph()
	x.Graph.Edges = []api.Edge{{From: 0, To: 1}, {From: 1, To: 0}, {From: 1, To: 2, Action: 1}}
	x.Weak = []int{1}
	if is, _ := IsFair(x, api.Lasso{Loop: []int{0, 1}}); !is {
		t.Error("weak")
	}
	x.Weak, x.Strong = nil, []int{1}
	if is, _ := IsFair(x, api.Lasso{Loop: []int{0, 1}}); is {
		t.Error("strong")
	}
}

func TestFirstAgainst(t *testing.T) {
	x := api.Labelled{Graph: api.Graph{States: 2, Init: []int{0}, Edges: []api.Edge{{From: 0, To: 1}}}, Labels: []int{0, 1}, Steps: []int{api.None}, Enabled: []int{api.None}}
	f := read(t, "<>p0")
	if l, err := FirstAgainst(x, f, 2); !reflect.DeepEqual(l, api.Lasso{Loop: []int{0}}) && !slices.Equal(l.Loop, []int{0}) || err != api.OK {
		t.Error(l, err)
	}
	x.Weak = []int{0}
	if _, err := FirstAgainst(x, f, 6); err != api.ErrNone {
		t.Error(err)
	}
	if l, err := FirstAgainst(x, read(t, "[]!p0"), 6); !slices.Equal(l.Prefix, []int{0}) || !slices.Equal(l.Loop, []int{1}) || err != api.OK {
		t.Error(l, err)
	}
	g := graph()
	for s, want := range map[string][2][]int{"!<>p1": {{0, 1}, {2}}, "[](p0 -> []p0)": {{}, {0, 1}}, "<>[]!p0": {{}, {0, 1}}, "!p4": {{}, {0}}, "(<>p1 -> <>(p0 & !<>!p0))": {{0, 1}, {2}}} {
		l, err := FirstAgainst(g, read(t, s), 4)
		if !slices.Equal(l.Prefix, want[0]) || !slices.Equal(l.Loop, want[1]) || err != api.OK {
			t.Errorf("%s: %v %d", s, l, err)
		}
	}
	for _, n := range []int{0, 7} {
		if _, err := FirstAgainst(x, f, n); err != api.ErrRange {
			t.Error(err)
		}
	}
}

func TestTexts(t *testing.T) {
	for _, s := range []string{"true", "p0", "p11", "!p0", "[]<>!p1", "(p0 ~> <>p1)", "((p0 & p1) | (p2 -> (p3 U true)))"} {
		f, at, err := ParseFormula(s)
		if text, _ := FormatFormula(f); text != s || at != len(s) || err != api.OK {
			t.Errorf("%s: %s %d %d", s, text, at, err)
		}
	}
	for s, want := range map[string]int{"": 0, "(p0 p1)": 4, "p": 1, "p01": 2, "p123": 3, "tru": 3, "trve": 2, "[p0": 1, "<p0": 1, "(p0": 3, "(p0 & p1": 8, "(p0 - p1)": 5, "p0 ": 2, " p0": 0, "(p0  & p1)": 4, "x": 0, "!": 1, "(p0 &p1)": 5} {
		if _, at, err := ParseFormula(s); at != want || err != api.ErrSyntax {
			t.Errorf("%q: %d %d", s, at, err)
		}
	}
	for s, want := range map[string]api.Errno{"p12": api.ErrRange, strings.Repeat("!", 40) + "p0": api.ErrLarge, strings.Repeat("!", 39) + "p0": api.OK, strings.Repeat("!", 400): api.ErrSyntax, strings.Repeat("!", 401): api.ErrLarge} {
		if _, at, err := ParseFormula(s); err != want || at != 0 && err != api.OK && err != api.ErrSyntax {
			t.Errorf("%.20q: %d %d", s, at, err)
		}
	}
}

func some(r *rand.Rand, depth int) string {
	if depth == 0 {
		return []string{"p0", "p1", "true"}[r.Intn(3)]
	}
	a, b := some(r, depth-1), some(r, r.Intn(depth))
	return []string{"!" + a, "[]" + a, "<>" + a, "(" + a + " & " + b + ")", "(" + a + " | " + b + ")", "(" + b + " -> " + a + ")", "(" + a + " ~> " + b + ")", "(" + b + " U " + a + ")", a}[r.Intn(9)]
}

func TestByChance(t *testing.T) {
	r := rand.New(rand.NewSource(3))
	letters := func(n int) (out []int) {
		for range n {
			out = append(out, r.Intn(4))
		}
		return out
	}
	for range 3000 {
		a, b := some(r, 3), some(r, 2)
		w := word(letters(r.Intn(4)), letters(1+r.Intn(4))...)
		same := func(x, y string) {
			f, g := read(t, x), read(t, y)
			l, e1 := TruthsOn(f, w)
			m, e2 := TruthsOn(g, w)
			if !slices.Equal(l, m) || e1 != api.OK || e2 != api.OK {
				t.Fatalf("%s %s on %v: %v %v", x, y, w, l, m)
			}
		}
		same("[]"+a, "!<>!"+a)
		same("("+a+" ~> "+b+")", "[]("+a+" -> <>"+b+")")
		same("<>"+a, "(true U "+a+")")
		short, _ := Shortest(w)
		still, _ := Unstuttered(w)
		f := read(t, a)
		x, _ := HoldsOn(f, w)
		y, _ := HoldsOn(f, short)
		z, _ := HoldsOn(f, still)
		if x != y || x != z {
			t.Fatalf("%s on %v, %v, %v: %v %v %v", a, w, short, still, x, y, z)
		}
	}
}
