package kernel

import (
	"math/rand"
	"slices"
	"strconv"
	"strings"
	"testing"

	"stutter/alike"
	"stutter/api"
	"stutter/exprs"
	"stutter/parse"
	"stutter/tree"
)

func expr(t testing.TB, s string) api.Expr {
	t.Helper()
	e, at, err := parse.ParseExpr([]string{s})
	if err != api.OK {
		t.Fatalf("%q: %d at %v", s, err, at)
	}
	return e
}

func text(e api.Expr) string {
	s, _ := tree.FormatExpr(e)
	return s
}

func list(t testing.TB, s string) []api.Expr {
	t.Helper()
	var out []api.Expr
	for _, part := range strings.Split(s, "; ") {
		if strings.TrimSpace(part) != "" {
			out = append(out, expr(t, strings.TrimSpace(part)))
		}
	}
	return out
}

// sequent reads "p; q |- r".
func sequent(t testing.TB, s string) api.Sequent {
	t.Helper()
	hyps, goal, _ := strings.Cut(s, "|-")
	return api.Sequent{Hyps: list(t, hyps), Goal: expr(t, strings.TrimSpace(goal))}
}

var ruleNames = []string{"Hyp", "Weaken", "True", "False", "And", "AndLeft", "AndRight", "OrLeft", "OrRight", "Cases", "Implies", "Detach", "Not", "Contradict", "Classical", "Iff", "IffLeft", "IffRight", "Same", "Replace", "Unequal", "Equal", "All", "Instance", "Witness", "Choose", "BoundAll", "OpenAll", "BoundSome", "OpenSome", "Set", "Extend", "Linear"}

// step reads "Rule 0 1 name=x term=e: p |- q" (numbers=1,-2 likewise).
func step(t testing.TB, s string) api.KernelStep {
	t.Helper()
	head, said, _ := strings.Cut(s, ": ")
	out := api.KernelStep{Sequent: sequent(t, said)}
	words := strings.Fields(head)
	out.Rule = slices.Index(ruleNames, words[0])
	for _, w := range words[1:] {
		key, value, given := strings.Cut(w, "=")
		switch {
		case !given:
			n, _ := strconv.Atoi(w)
			out.From = append(out.From, n)
		case key == "name":
			out.Name = value
		case key == "term":
			out.Term = expr(t, strings.ReplaceAll(value, "_", " "))
		default:
			for _, n := range strings.Split(value, ",") {
				i, _ := strconv.Atoi(n)
				out.Numbers = append(out.Numbers, i)
			}
		}
	}
	return out
}

// derivation reads steps, of which those without premises but their own goals as hypotheses are written "= p".
func derivation(t testing.TB, lines ...string) []api.KernelStep {
	t.Helper()
	var out []api.KernelStep
	for _, s := range lines {
		if p, is := strings.CutPrefix(s, "= "); is {
			s = "Hyp: " + p + " |- " + p
		}
		out = append(out, step(t, s))
	}
	return out
}

func TestCheckSequent(t *testing.T) {
	x := expr(t, "x")
	hyps := make([]api.Expr, 13)
	for i := range hyps {
		hyps[i] = exprs.Name("h" + strconv.Itoa(i))
	}
	for i, c := range []struct {
		s   api.Sequent
		at  int
		err api.Errno
	}{
		{api.Sequent{Goal: x}, 0, api.OK}, {api.Sequent{Hyps: hyps, Goal: x}, 0, api.ErrLarge}, {api.Sequent{Hyps: hyps[:12], Goal: x}, 0, api.OK}, {api.Sequent{Hyps: []api.Expr{x, nil}, Goal: x}, 1, api.ErrEmpty},
		{api.Sequent{Hyps: []api.Expr{x, x, nil}}, 1, api.ErrDouble}, {api.Sequent{Hyps: []api.Expr{x}}, 1, api.ErrEmpty}, {sequent(t, "\\A y : y = x; \\A z : z = x |- x"), 1, api.ErrDouble},
	} {
		if at, err := CheckSequent(c.s); at != c.at || err != c.err {
			t.Error(i, at, err)
		}
	}
}

// right has for each rule derivations whose last steps are of it.
func right() [][]string {
	return [][]string{
		{"Hyp: q; p |- p"}, {"Hyp: \\A x : x |- \\A y : y"}, {"= p", "Weaken 0: q; p |- p"}, {"True: |- TRUE"}, {"= FALSE", "False 0: FALSE |- p"},
		{"= p", "= q", "And 0 1: p; q |- p /\\ q"}, {"= p /\\ q", "AndLeft 0: p /\\ q |- p"}, {"= p /\\ q", "AndRight 0: p /\\ q |- q"}, {"= p", "OrLeft 0: p |- p \\/ q"}, {"= q", "OrRight 0: q |- p \\/ q"},
		{"= p \\/ p", "= p", "Cases 0 1 1: p \\/ p |- p"}, {"= p", "Implies 0: |- p => p"}, {"= p => q", "= p", "Detach 0 1: p; p => q |- q"}, {"= FALSE", "Not 0: |- ~FALSE"}, {"= ~p", "= p", "Contradict 0 1: p; ~p |- FALSE"},
		{"= ~(~p)", "= ~p", "Contradict 0 1: ~(~p); ~p |- FALSE", "Classical 2: ~(~p) |- p"}, {"= p => q", "= q => p", "Iff 0 1: p => q; q => p |- p <=> q"}, {"= p <=> q", "IffLeft 0: p <=> q |- p => q"}, {"= p <=> q", "IffRight 0: p <=> q |- q => p"},
		{"Same: |- {x \\in S : x} = {y \\in S : y}"}, {"= a = b", "= P(a, a)", "Replace 0 1 name=z term=P(z,a): a = b; P(a, a) |- P(b, a)"}, {"= x = b", "= \\E y : y = x", "Replace 0 1 name=z term=\\E_x:x_=_z: x = b; \\E y : y = x |- \\E x : x = b"},
		{"= ~(a = b)", "Unequal 0: ~(a = b) |- a # b"}, {"= a # b", "Equal 0: a # b |- ~(a = b)"},
		{"Same: |- c = c", "All 0 name=c: |- \\A x : x = x"}, {"= \\A x : x = c", "Instance 0 term=d+e: \\A x : x = c |- d + e = c"}, {"= c = d", "Witness 0 term=c: c = d |- \\E x : x = d"},
		{"= \\E x : P(x)", "= P(c)", "Witness 1 term=c: P(c) |- \\E y : P(y)", "Choose 0 2 name=c: \\E x : P(x) |- \\E y : P(y)"},
		{"= \\A x : x \\in S => P(x)", "BoundAll 0: \\A x : x \\in S => P(x) |- \\A y \\in S : P(y)"}, {"= \\A x \\in x : P(x)", "OpenAll 0: \\A x \\in x : P(x) |- \\A y : y \\in x => P(y)"},
		{"= \\E x : x \\in S /\\ P(x)", "BoundSome 0: \\E x : x \\in S /\\ P(x) |- \\E y \\in S : P(y)"}, {"= \\E x \\in S : P(x)", "OpenSome 0: \\E x \\in S : P(x) |- \\E y : y \\in S /\\ P(y)"},
		{"Set: |- a \\in {1, 2} <=> (a = 1 \\/ a = 2)"}, {"Set name=z: |- a \\in SUBSET S <=> \\A y \\in a : y \\in S"}, {"Set: |- a \\notin S <=> ~(a \\in S)"}, {"Set name=z: |- S \\subseteq T <=> \\A y \\in S : y \\in T"},
		{"= \\A x : x \\in S <=> x \\in T", "Extend 0: \\A x : x \\in S <=> x \\in T |- S = T"}, {"= x <= y", "= y < z", "Linear 0 1 numbers=1,1: x <= y; y < z |- x < z"}, {"= x < y", "= y < x", "Linear 0 1 numbers=1,1: x < y; y < x |- FALSE"}, {"= x = y", "Linear 0 numbers=-1: x = y |- y = x"},
	}
}

func TestRules(t *testing.T) {
	seen := map[int]bool{}
	for _, lines := range right() {
		l := derivation(t, lines...)
		if n, err := CheckDerivation(l); n != len(l) || err != api.OK {
			t.Error(lines, n, err)
		}
		seen[l[len(l)-1].Rule] = true
		for n := 1; n < len(l); n++ {
			if at, err := CheckDerivation(l[:n]); at != n || err != api.OK {
				t.Error(lines, n, at, err)
			}
		}
		// Another goal does not follow, nor does the same one without a hypothesis that is needed.
		last := &l[len(l)-1]
		goal := last.Sequent.Goal
		last.Sequent.Goal = expr(t, "other(1)")
		if at, err := CheckDerivation(l); last.Rule != api.RuleFalse && (at != len(l)-1 || err != api.ErrProof) {
			t.Error(lines, at, err)
		}
		last.Sequent.Goal = goal
		if last.Rule != api.RuleWeaken && len(last.Sequent.Hyps) > 0 && last.Rule != api.RuleHyp {
			last.Sequent.Hyps = last.Sequent.Hyps[1:]
			if at, err := CheckDerivation(l); at != len(l)-1 || err != api.ErrProof {
				t.Error(lines, at, err)
			}
		}
	}
	if len(seen) != api.RuleKinds {
		t.Error(len(seen))
	}
}

func TestWrongSteps(t *testing.T) {
	for _, lines := range [][]string{
		{"Hyp: p |- q"}, {"True: |- FALSE"}, {"True: |- p"}, {"= p", "False 0: p |- q"}, {"= p", "= q", "And 0 1: p; q |- q /\\ p"}, {"= p /\\ q", "AndLeft 0: p /\\ q |- q"}, {"= p /\\ q", "AndRight 0: p /\\ q |- p"}, {"= p", "OrLeft 0: p |- q \\/ p"}, {"= q", "OrRight 0: q |- q \\/ p"},
		{"= p \\/ q", "= p", "= q", "Cases 0 1 2: p \\/ q |- p"}, {"= p \\/ q", "= r", "Cases 0 1 1: p \\/ q |- r"}, {"= p", "Implies 0: |- q => p"}, {"= p => q", "= q", "Detach 0 1: q; p => q |- p"}, {"= p", "Not 0: |- ~p"}, {"= ~p", "= q", "Contradict 0 1: q; ~p |- FALSE"}, {"= FALSE", "Classical 0: |- p"},
		{"= p => q", "= q => p", "Iff 0 1: p => q; q => p |- q <=> p"}, {"= p <=> q", "IffLeft 0: p <=> q |- q => p"}, {"= p <=> q", "IffRight 0: p <=> q |- p => q"}, {"Same: |- a = b"},
		{"= b = a", "= P(a)", "Replace 0 1 name=z term=P(z): b = a; P(a) |- P(b)"}, {"= f = g", "= f(1)", "Replace 0 1 name=z term=z(1): f = g; f(1) |- g(1)"}, {"= ~(a = b)", "Unequal 0: ~(a = b) |- b # a"}, {"= a # b", "Equal 0: a # b |- ~(b = a)"}, {"= P(c)", "All 0 name=c: P(c) |- \\A x : P(x)"}, {"Same: |- c = c", "All 0 name=c: |- \\A x : x = c"}, {"Same: |- c = c", "All 0 name=c: |- \\A x, y : x = x"},
		{"= \\A x : x(1)", "Instance 0 term=c: \\A x : x(1) |- c(1)"}, {"= \\A x, y : P(x)", "Instance 0 term=c: \\A x, y : P(x) |- P(c)"}, {"= \\A x : \\E y : x = y", "Instance 0 term=y: \\A x : \\E y : x = y |- \\E y : y = y"}, {"= c = d", "Witness 0 term=e: c = d |- \\E x : x = d"}, {"= \\E x : P(x)", "= P(c)", "Choose 0 1 name=c: \\E x : P(x) |- P(c)"}, {"= \\E x : P(x)", "= P(c)", "Weaken 1: P(c); Q(c) |- P(c)", "Choose 0 2 name=c: \\E x : P(x); Q(c) |- P(c)"},
		{"= \\E x : x = c", "= q", "Weaken 1: c = c; q |- q", "Choose 0 2 name=c: \\E x : x = c; q |- q"}, {"= \\A x : x \\in x => P(x)", "BoundAll 0: \\A x : x \\in x => P(x) |- \\A y \\in x : P(y)"}, {"= \\A x : c \\in S => P(x)", "BoundAll 0: \\A x : c \\in S => P(x) |- \\A y \\in S : P(y)"}, {"= \\E x : x \\in S /\\ P(x)", "BoundAll 0: \\E x : x \\in S /\\ P(x) |- \\E y \\in S : P(y)"},
		{"Set: |- a \\in SUBSET S <=> \\A y \\in a : y \\in S"}, {"Set name=S: |- a \\in SUBSET S <=> \\A y \\in a : y \\in S"}, {"Set: |- a \\in {1, 2} <=> (a = 2 \\/ a = 1)"}, {"Set: |- a \\in {x \\in S : x(1)} <=> (a \\in S /\\ b(1))"}, {"Set: |- a \\in {1} => a = 1"}, {"Set: |- a \\in b <=> a \\in b"},
		{"= \\A x : x \\in S <=> x \\in T", "Extend 0: \\A x : x \\in S <=> x \\in T |- T = S"}, {"= \\A x : x \\in S <=> x \\in x", "Extend 0: \\A x : x \\in S <=> x \\in x |- S = x"}, {"= x <= y", "Linear 0 numbers=-1: x <= y |- y <= x"}, {"= x <= y", "Linear 0 numbers=1: x <= y |- x < y"}, {"= x <= y", "Linear 0 numbers=10001: x <= y |- x <= y"},
	} {
		l := derivation(t, lines...)
		if at, err := CheckDerivation(l); at != len(l)-1 || err != api.ErrProof {
			t.Error(lines, at, err)
		}
	}
	right := derivation(t, "Set: |- a \\in {x \\in S : x(1)} <=> (a \\in S /\\ a(1))", "= x <= y", "Linear 1 numbers=1: x <= y |- x <= y", "= \\E x : P(x)", "= Q(d)", "Weaken 4: P(c); Q(d) |- Q(d)", "Choose 3 5 name=c: \\E x : P(x); Q(d) |- Q(d)")
	if n, err := CheckDerivation(right); n != 7 || err != api.OK {
		t.Error(n, err)
	}
}

func TestDerivationErrors(t *testing.T) {
	p := "= p"
	base := derivation(t, p)
	with := func(change func(s *api.KernelStep), line string) []api.KernelStep {
		s := derivation(t, line)[0]
		change(&s)
		return append(slices.Clone(base), s)
	}
	nothing := func(*api.KernelStep) {}
	for i, c := range []struct {
		l   []api.KernelStep
		at  int
		err api.Errno
	}{
		{nil, 0, api.ErrEmpty}, {slices.Repeat(base, 201), 0, api.ErrLarge}, {slices.Repeat(base, 200), 200, api.OK},
		{with(func(s *api.KernelStep) { s.Sequent.Goal, s.Rule = nil, 99 }, p), 1, api.ErrEmpty}, {with(func(s *api.KernelStep) { s.Rule, s.From = 33, []int{1} }, p), 1, api.ErrKind}, {with(func(s *api.KernelStep) { s.Rule = -1 }, p), 1, api.ErrKind},
		{with(nothing, "Hyp 0: p |- p"), 1, api.ErrShape}, {with(nothing, "And 0: p |- p /\\ p"), 1, api.ErrShape}, {with(nothing, "Linear: p |- p"), 1, api.ErrShape}, {with(nothing, "Linear 5 numbers=1,2: p |- p"), 1, api.ErrShape}, {with(nothing, "Weaken 1: p |- p"), 1, api.ErrRange}, {with(nothing, "Weaken -1 name=a: p |- p"), 1, api.ErrRange},
		{with(func(s *api.KernelStep) { s.From = make([]int, 13); s.Numbers = make([]int, 13) }, "Linear: p |- p"), 1, api.ErrShape}, {with(func(s *api.KernelStep) { s.From = make([]int, 12); s.Numbers = make([]int, 12) }, "Linear: p |- p"), 1, api.ErrProof},
		{with(nothing, "Weaken 0 name=a: p |- p"), 1, api.ErrForm}, {with(nothing, "Instance 0 name=a term=a: p |- p"), 1, api.ErrForm}, {with(nothing, "All 0 name=a term=a: p |- p"), 1, api.ErrForm}, {with(nothing, "Weaken 0 numbers=1: p |- p"), 1, api.ErrForm}, {with(nothing, "All 0: p |- p"), 1, api.ErrName}, {with(nothing, "All 0 name=1: p |- p"), 1, api.ErrName},
		{with(nothing, "Set name=1: |- a \\notin b <=> ~(a \\in b)"), 1, api.ErrName}, {with(nothing, "Set: |- a \\notin b <=> ~(a \\in b)"), 2, api.OK}, {with(nothing, "Set name=a: |- a \\notin b <=> ~(a \\in b)"), 2, api.OK}, {with(nothing, "Replace 0 0 name=: p |- p"), 1, api.ErrName}, {with(nothing, "Replace 0 0 name=z: p |- p"), 1, api.ErrEmpty}, {with(nothing, "Instance 0: p |- p"), 1, api.ErrEmpty},
		{with(func(s *api.KernelStep) { s.Term = api.Expr{{Kind: 99}} }, "Witness 0: p |- p"), 1, api.ErrKind}, {with(nothing, "Weaken 0: q |- p"), 1, api.ErrProof},
	} {
		if at, err := CheckDerivation(c.l); at != c.at || err != c.err {
			t.Error(i, at, err)
		}
	}
}

func TestCheckProof(t *testing.T) {
	l := derivation(t, "= p", "= q", "And 0 1: p; q |- p /\\ q")
	for s, want := range map[string]api.Errno{"p; q |- p /\\ q": api.OK, "r; q; p |- p /\\ q": api.OK, "p |- p /\\ q": api.ErrProof, "p; q |- q /\\ p": api.ErrProof} {
		if err := CheckProof(l, sequent(t, s)); err != want {
			t.Error(s, err)
		}
	}
	e1 := CheckProof(nil, api.Sequent{})
	e2 := CheckProof(l, api.Sequent{Hyps: l[0].Sequent.Hyps})
	e3 := CheckProof(derivation(t, "Hyp: |- p"), api.Sequent{})
	if e1 != api.ErrEmpty || e2 != api.ErrEmpty || e3 != api.ErrProof {
		t.Error(e1, e2, e3)
	}
}

func TestMeaning(t *testing.T) {
	for _, c := range []struct{ e, name, want string }{
		{"a \\in {1, 2, 3}", "", "(a = 1 \\/ a = 2) \\/ a = 3"}, {"a \\in {}", "", "FALSE"}, {"a \\in {b}", "a", "a = b"}, {"a \\in S \\cup T", "", "a \\in S \\/ a \\in T"}, {"a \\in S \\cap T", "", "a \\in S /\\ a \\in T"}, {"a \\in S \\ T", "", "a \\in S /\\ ~(a \\in T)"},
		{"a \\in {x \\in S : x = b}", "", "a \\in S /\\ a = b"}, {"x \\in {x \\in S : \\E a : x = a}", "", "x \\in S /\\ \\E c : x = c"}, {"a \\in {x + y : x \\in S}", "z", "\\E z \\in S : a = z + y"}, {"a \\in {x(1) : x \\in S}", "z", "\\E z \\in S : a = z(1)"}, {"a \\in SUBSET S", "z", "\\A z \\in a : z \\in S"}, {"a \\in UNION S", "z", "\\E z \\in S : a \\in z"},
		{"a \\notin {1}", "1", "~(a \\in {1})"}, {"a \\notin b", "a", "~(a \\in b)"}, {"S \\subseteq T", "z", "\\A z \\in S : z \\in T"}, {"a \\in {x \\in S : x(1)}", "", "a \\in S /\\ a(1)"},
	} {
		if e, err := MeaningOf(expr(t, c.e), c.name); err != api.OK || !exprs.Same(e, expr(t, c.want)) && alike.Key(e) != alike.Key(expr(t, c.want)) {
			t.Error(c, text(e), err)
		}
	}
	big := exprs.Make(api.Node{Kind: api.ExprSet}, slices.Repeat([]api.Expr{expr(t, "<<1, 2, 3>>")}, 30)...)
	for i, c := range []struct {
		e    api.Expr
		name string
		err  api.Errno
	}{
		{nil, "", api.ErrEmpty}, {expr(t, "a = b"), "", api.ErrKind}, {expr(t, "a \\in b"), "", api.ErrKind}, {expr(t, "a \\in b .. c"), "z", api.ErrKind}, {expr(t, "a \\in {x : x \\in S, y \\in T}"), "z", api.ErrKind}, {expr(t, "a \\in F(b)"), "z", api.ErrKind}, {expr(t, "a \\in DOMAIN b"), "z", api.ErrKind},
		{expr(t, "a \\in SUBSET b"), "", api.ErrName}, {expr(t, "a \\in UNION b"), "1", api.ErrName}, {expr(t, "a \\subseteq b"), "M!x", api.ErrName}, {expr(t, "a \\in {x : x \\in S}"), "", api.ErrName}, {expr(t, "a \\in SUBSET b"), "b", api.ErrCapture}, {expr(t, "a \\subseteq b"), "a", api.ErrCapture}, {expr(t, "a \\in {z : x \\in S}"), "z", api.ErrCapture}, {expr(t, "a \\in {x : x \\in x}"), "x", api.ErrCapture},
		{expr(t, "a \\in {x : x \\in S}"), "x", api.OK}, {expr(t, "1 \\in {x \\in S : x(1)}"), "", api.ErrArity}, {exprs.Apply("\\in", exprs.Name("a"), big), "", api.ErrLarge},
	} {
		if _, err := MeaningOf(c.e, c.name); err != c.err {
			t.Error(i, err)
		}
	}
}

func TestFollows(t *testing.T) {
	for _, c := range []struct {
		l       string
		numbers []int
		goal    string
		follows bool
	}{
		{"x <= y; y < z", []int{1, 1}, "x < z", true}, {"x <= y; y < z", []int{1, 1}, "x <= z", true}, {"x <= y; y <= z", []int{1, 1}, "x < z", false}, {"x < y; y < x", []int{1, 1}, "FALSE", true}, {"x < y; y < x", []int{1, 0}, "FALSE", false}, {"x = y; y = z", []int{1, 1}, "x = z", true}, {"x = y", []int{-1}, "y = x", true}, {"x = y; y <= z", []int{1, 0}, "x = y", false},
		{"x = y", []int{3}, "3 * y <= 3 * x", true}, {"x = y", []int{-3}, "3 * y <= 3 * x", false}, {"x = y", []int{-3}, "3 * x <= 3 * y", true}, {"x <= y", []int{-1}, "FALSE", false}, {"x >= 2", []int{1}, "x > 1", true}, {"x > 1", []int{1}, "x >= 2", true}, {"x > 1", []int{2}, "2 * x - 3 > 0", true}, {"x < 1", []int{1}, "x = 0", false}, {"x # y", []int{1}, "FALSE", false}, {"x < y", []int{1}, "x # y", false}, {"x < y", []int{1}, "p", false}, {"x < y; p", []int{1, 0}, "x < y", false},
		{"f(x) < g(x)", []int{1}, "f(x) < g(x)", true}, {"(\\E a : a) < b", []int{1}, "(\\E c : c) < b", true}, {"x * y < 3", []int{1}, "x * y < 4", true}, {"x * y < 3", []int{1}, "y * x < 4", false}, {"(x - x + 2) * y < 3", []int{1}, "y * 2 < 3", true}, {"-x < 3", []int{1}, "x > 0 - 3", true}, {"1 < 0", []int{1}, "FALSE", true}, {"1 < 0", []int{10000}, "x < x", true}, {"1 <= 1", []int{1}, "FALSE", false},
		{"10000 * (10000 * (10 * x)) < 0", []int{1}, "10000 * (10000 * (10 * x)) < 0", true}, {"10000 * (10000 * (10 * x)) < 0; x < 0", []int{2, 0}, "10000 * (10000 * (10 * x)) < 0", false}, {"10000 * (10000 * (11 * x)) < 0; 1 < 0", []int{0, 1}, "FALSE", false},
	} {
		if is, err := FollowsBy(list(t, c.l), c.numbers, expr(t, c.goal)); is != c.follows || err != api.OK {
			t.Error(c, is, err)
		}
	}
	x := expr(t, "x < y")
	for i, c := range []struct {
		l       []api.Expr
		numbers []int
		goal    api.Expr
		err     api.Errno
	}{
		{nil, []int{1}, nil, api.ErrEmpty}, {slices.Repeat([]api.Expr{x}, 13), nil, nil, api.ErrLarge}, {slices.Repeat([]api.Expr{x}, 12), make([]int, 12), x, api.OK}, {[]api.Expr{x, nil}, nil, nil, api.ErrEmpty}, {[]api.Expr{x}, nil, nil, api.ErrShape}, {[]api.Expr{x}, []int{10001}, nil, api.ErrRange}, {[]api.Expr{x}, []int{-10001}, nil, api.ErrRange}, {[]api.Expr{x}, []int{-10000}, nil, api.ErrEmpty},
	} {
		if is, err := FollowsBy(c.l, c.numbers, c.goal); is || err != c.err {
			t.Error(i, is, err)
		}
	}
}

func TestFollowsRandom(t *testing.T) {
	r := rand.New(rand.NewSource(34))
	form := func() string {
		return strconv.Itoa(r.Intn(3)) + " * x - " + strconv.Itoa(r.Intn(3)) + " * y + " + strconv.Itoa(r.Intn(4))
	}
	comparison := func() api.Expr {
		return expr(t, form()+[]string{" < ", " <= ", " = ", " >= ", " > "}[r.Intn(5)]+form())
	}
	found := 0
	for range 6000 {
		l := []api.Expr{comparison(), comparison()}
		goal := comparison()
		if r.Intn(4) == 0 {
			goal = expr(t, "FALSE")
		}
		if is, _ := FollowsBy(l, []int{r.Intn(4), r.Intn(3)}, goal); !is {
			continue
		}
		found++
		for x := -6; x <= 6; x++ {
			for y := -6; y <= 6; y++ {
				if holds(l[0], x, y) && holds(l[1], x, y) && !holds(goal, x, y) {
					t.Fatal(text(l[0]), text(l[1]), text(goal), x, y)
				}
			}
		}
	}
	t.Log(found)
}

// holds evaluates comparisons in x and y.
func holds(e api.Expr, x, y int) bool {
	if len(e) == 1 {
		return false
	}
	n := e[len(e)-1]
	a, b := number(exprs.Part(e, n.Args[0]), x, y), number(exprs.Part(e, n.Args[1]), x, y)
	return map[string]bool{"<": a < b, "<=": a <= b, "=": a == b, ">=": a >= b, ">": a > b}[n.Text]
}

func number(e api.Expr, x, y int) int {
	n := e[len(e)-1]
	if n.Kind == api.ExprNumber {
		return n.N
	}
	if n.Kind == api.ExprName {
		return map[string]int{"x": x, "y": y}[n.Text]
	}
	a, b := number(exprs.Part(e, n.Args[0]), x, y), number(exprs.Part(e, n.Args[1]), x, y)
	return map[string]int{"+": a + b, "-": a - b, "*": a * b}[n.Text]
}

func model() api.KernelModel {
	return api.KernelModel{Size: 2, Names: []string{"y", "z"}, Values: []int{1, 0}, Members: []int{0, 1, 0, 0}, Operators: []string{"F", "P"}, Tables: [][]int{{1, 0}, {0, 1, 1, 1}}}
}

func TestCheckModel(t *testing.T) {
	for i, c := range []struct {
		change func(m *api.KernelModel)
		at     int
		err    api.Errno
	}{
		{func(m *api.KernelModel) {}, 0, api.OK}, {func(m *api.KernelModel) { m.Size = 1 }, 0, api.ErrRange}, {func(m *api.KernelModel) { m.Size = 4 }, 0, api.ErrRange}, {func(m *api.KernelModel) { m.Names = make([]string, 61) }, 0, api.ErrLarge}, {func(m *api.KernelModel) { m.Operators = make([]string, 61) }, 0, api.ErrLarge},
		{func(m *api.KernelModel) { m.Values = m.Values[1:] }, 0, api.ErrShape}, {func(m *api.KernelModel) { m.Tables = m.Tables[1:] }, 0, api.ErrShape}, {func(m *api.KernelModel) { m.Members = m.Members[1:] }, 0, api.ErrShape}, {func(m *api.KernelModel) { m.Names[1] = "1" }, 1, api.ErrName}, {func(m *api.KernelModel) { m.Names[1] = "y"; m.Values[1] = 2 }, 1, api.ErrDouble},
		{func(m *api.KernelModel) { m.Values[1] = 2 }, 1, api.ErrRange}, {func(m *api.KernelModel) { m.Values[0] = -1; m.Names[1] = "" }, 0, api.ErrRange}, {func(m *api.KernelModel) { m.Operators[1] = "M!P" }, 1, api.ErrName}, {func(m *api.KernelModel) { m.Operators[1] = "F" }, 1, api.ErrDouble}, {func(m *api.KernelModel) { m.Tables[0] = nil }, 0, api.ErrShape}, {func(m *api.KernelModel) { m.Tables[1][3] = 2 }, 1, api.ErrRange},
		{func(m *api.KernelModel) { m.Members[2] = 2 }, 2, api.ErrRange}, {func(m *api.KernelModel) { m.Members[3] = -1 }, 3, api.ErrRange}, {func(m *api.KernelModel) { m.Operators[1] = "y" }, 0, api.OK},
	} {
		m := model()
		c.change(&m)
		if at, err := CheckModel(m); at != c.at || err != c.err {
			t.Error(i, at, err)
		}
		if _, err := ValueIn(m, nil); c.err != api.OK && err != c.err || c.err == api.OK && err != api.ErrEmpty {
			t.Error(i, err)
		}
		if _, err := HoldsIn(m, api.Sequent{}); c.err != api.OK && err != c.err || c.err == api.OK && err != api.ErrEmpty {
			t.Error(i, err)
		}
	}
}

func TestValueIn(t *testing.T) {
	for s, want := range map[string]int{
		"\\A x \\in y : x = z": 1, "TRUE": 1, "FALSE": 0, "y": 1, "z": 0, "unknown": 0, "M!a": 0, "F(y)": 0, "F(z)": 1, "P(z, z)": 0, "P(z, y)": 1, "P(F(y), y)": 1, "y = z": 0, "y # z": 1, "z \\in y": 1, "y \\in z": 0, "y \\notin z": 1, "~y": 0, "~z": 1, "y /\\ z": 0, "y \\/ z": 1, "y => z": 0, "z => z": 1, "z <=> z": 1, "y <=> z": 0,
		"\\A x : x = y": 0, "\\E x : x = y": 1, "\\A x, w : x = w \\/ x # w": 1, "\\E x, w : x # w /\\ P(x, w)": 1, "\\E x \\in z : TRUE": 0, "\\A x \\in z : FALSE": 1, "\\E x \\in y : TRUE": 1, "\\A y : \\E z : y # z": 1, "\\E z : \\A y : y # z": 0, "\\A x \\in y, w \\in y : x = w": 1, "\\A y \\in y : y = z": 1,
	} {
		if v, err := ValueIn(model(), expr(t, s)); v != want || err != api.OK {
			t.Error(s, v, err)
		}
	}
	three := api.KernelModel{Size: 3, Names: []string{"a"}, Values: []int{2}, Members: make([]int, 9)}
	for s, want := range map[string]int{"a": 2, "~a": 1, "a = FALSE": 0, "a \\/ a": 0, "a <=> FALSE": 1, "\\E x, y, z : x # y /\\ y # z /\\ x # z": 1} {
		if v, err := ValueIn(three, expr(t, s)); v != want || err != api.OK {
			t.Error(s, v, err)
		}
	}
	for s, want := range map[string]api.Errno{
		"G(y)": api.ErrMissing, "F(y, y)": api.ErrMissing, "P(y)": api.ErrMissing, "M!F(y)": api.ErrMissing, "F(y, y, y)": api.ErrMissing, "1": api.ErrRefused, "BOOLEAN": api.ErrRefused, "STRING": api.ErrRefused, "y + z": api.ErrRefused, "{y}": api.ErrRefused, "\\A F : F(y)": api.ErrRefused, "\\A F \\in F(y) : y": api.OK, "G(1)": api.ErrRefused, "G(y) = 1": api.ErrMissing, "1 = G(y)": api.ErrRefused,
		"y \\subseteq z": api.ErrRefused, "CHOOSE x \\in y : x": api.ErrRefused, "y'": api.ErrRefused,
	} {
		if v, err := ValueIn(model(), expr(t, s)); err != want || v != 0 && want != api.OK {
			t.Error(s, err)
		}
	}
}

func TestHoldsIn(t *testing.T) {
	for s, want := range map[string]bool{"y |- z": false, "z |- z": true, "y |- y": true, "|- z \\in y": true, "y; z |- FALSE": true, "y |- FALSE": false} {
		if is, err := HoldsIn(model(), sequent(t, s)); is != want || err != api.OK {
			t.Error(s, is, err)
		}
	}
	for s, want := range map[string]api.Errno{"z; 1 |- G(y)": api.ErrRefused, "z |- G(y)": api.ErrMissing, "y; y |- 1": api.ErrDouble} {
		if is, err := HoldsIn(model(), sequent(t, s)); is || err != want {
			t.Error(s, is, err)
		}
	}
}

// TestSound changes right derivations at random: what is accepted then holds in random models.
func TestSound(t *testing.T) {
	r := rand.New(rand.NewSource(6))
	parts := list(t, "p; q; ~p; FALSE; p \\/ q; p /\\ q; p => q; p <=> q; q => p; a = b; b = a; a # b; ~(a = b); \\A x : x = a; \\E x : x = a; c = a; d = a; \\A x \\in b : x = a; \\A x : x \\in b => x = a; \\E x \\in b : x = a; \\E x : x \\in b /\\ x = a; c \\in b; c \\in b => c = a; c \\in b /\\ c = a; p \\/ ~p; x = a; \\A c : c = a")
	names := []string{"", "a", "b", "c", "x"}
	accepted := 0
	for range 60 {
		var l []api.KernelStep
		var all []known
		for range 3000 {
			s := api.KernelStep{Rule: r.Intn(api.RuleSet), Sequent: api.Sequent{Goal: parts[r.Intn(len(parts))]}}
			for _, i := range r.Perm(len(parts))[:r.Intn(3)] {
				s.Sequent.Hyps = append(s.Sequent.Hyps, parts[i])
			}
			for range premises[s.Rule] {
				s.From = append(s.From, r.Intn(len(l)+1))
			}
			if slices.Contains([]int{api.RuleReplace, api.RuleAll, api.RuleChoose}, s.Rule) {
				s.Name = names[1+r.Intn(4)]
			}
			if slices.Contains([]int{api.RuleReplace, api.RuleInstance, api.RuleWitness}, s.Rule) {
				s.Term = parts[r.Intn(len(parts))]
				if s.Rule != api.RuleReplace {
					s.Term = exprs.Name(names[1+r.Intn(4)])
				}
			}
			if s.Rule == api.RuleHyp && len(l) < 12 {
				s.Sequent.Hyps = []api.Expr{s.Sequent.Goal}
			}
			k, _, err := knownOf(s.Sequent)
			if err != api.OK || checkStep(s, len(l)) != api.OK {
				continue
			}
			c := check{known: k, step: s}
			for _, f := range s.From {
				c.from = append(c.from, all[f])
			}
			if c.follows() {
				l, all = append(l, s), append(all, k)
			}
			if len(l) == 30 {
				break
			}
		}
		accepted += len(l)
		if n, err := CheckDerivation(l); n != len(l) || err != api.OK {
			t.Fatal(n, err)
		}
		for range 20 {
			m := api.KernelModel{Size: 2 + r.Intn(2), Names: []string{"a", "b", "c", "d", "p", "q", "x"}}
			for range m.Names {
				m.Values = append(m.Values, r.Intn(m.Size))
			}
			for range m.Size * m.Size {
				m.Members = append(m.Members, r.Intn(2))
			}
			for _, s := range l {
				if is, err := HoldsIn(m, s.Sequent); !is || err != api.OK {
					t.Fatal(s, m, err)
				}
			}
		}
	}
	t.Log(accepted)
}
