package prover

import (
	"math/rand"
	"reflect"
	"slices"
	"strconv"
	"strings"
	"testing"

	"stutter/api"
	"stutter/exprs"
	"stutter/kernel"
	"stutter/parse"
	"stutter/tree"
)

func expr(t testing.TB, s string) api.Expr {
	t.Helper()
	e, at, err := parse.ParseExpr([]string{s})
	if err != api.OK {
		t.Fatalf("%q: %d at %v", s, err, at)
	}
	return e
}

func list(t testing.TB, s string) []api.Expr {
	t.Helper()
	var out []api.Expr
	for _, part := range strings.Split(s, "; ") {
		if strings.TrimSpace(part) != "" {
			out = append(out, expr(t, strings.TrimSpace(part)))
		}
	}
	return out
}

// sequent reads "p; q |- r".
func sequent(t testing.TB, s string) api.Sequent {
	t.Helper()
	hyps, goal, _ := strings.Cut(s, "|-")
	return api.Sequent{Hyps: list(t, hyps), Goal: expr(t, strings.TrimSpace(goal))}
}

func texts(l []api.Expr) string {
	var out []string
	for _, e := range l {
		s, _ := tree.FormatExpr(e)
		out = append(out, s)
	}
	return strings.Join(out, "; ")
}

func TestCheckGoal(t *testing.T) {
	x := expr(t, "x")
	hyps := make([]api.Expr, 13)
	for i := range hyps {
		hyps[i] = exprs.Name("h" + strconv.Itoa(i))
	}
	for i, c := range []struct {
		q   api.Sequent
		at  int
		err api.Errno
	}{
		{api.Sequent{Goal: x}, 0, api.OK}, {api.Sequent{Hyps: hyps, Goal: x}, 0, api.ErrLarge}, {api.Sequent{Hyps: hyps[:12], Goal: x}, 0, api.OK},
		{api.Sequent{Hyps: []api.Expr{x, nil}, Goal: x}, 1, api.ErrEmpty}, {api.Sequent{Hyps: []api.Expr{x, x, nil}, Goal: nil}, 1, api.ErrDouble}, {api.Sequent{Hyps: []api.Expr{x}}, 1, api.ErrEmpty},
		{sequent(t, "\\A y : y = x; \\A z : z = x |- x"), 1, api.ErrDouble},
	} {
		if at, err := CheckGoal(c.q); at != c.at || err != c.err {
			t.Error(i, at, err)
		}
		for _, f := range []func(api.Sequent) api.Errno{
			func(q api.Sequent) api.Errno { _, err := AtomsOf(q); return err },
			func(q api.Sequent) api.Errno { _, err := Decide(q); return err },
			func(q api.Sequent) api.Errno { _, err := Prove(q); return err },
			func(q api.Sequent) api.Errno { _, err := ModelAgainst(q); return err },
		} {
			if err := f(c.q); c.err != api.OK && err != c.err {
				t.Error(i, err)
			}
		}
	}
}

func TestAtoms(t *testing.T) {
	for s, want := range map[string]string{
		"p; p => q |- q":                                         "p; q",
		"|- TRUE":                                                "",
		"~(a = b) \\/ FALSE |- \\A x : p /\\ x":                  "a = b; \\A x : p /\\ x",
		"\\A x : x; q |- (\\A y : y) <=> r":                      "\\A x : x; q; r",
		"(q /\\ p) => BOOLEAN |- 5 \\/ (x = (p /\\ q))":          "q; p; BOOLEAN; 5; x = (p /\\ q)",
		"|- a1 /\\ a2 /\\ a3 /\\ a4 /\\ a5 /\\ a6 /\\ a7 /\\ a8": "a1; a2; a3; a4; a5; a6; a7; a8",
	} {
		if l, err := AtomsOf(sequent(t, s)); texts(l) != want || err != api.OK {
			t.Errorf("%s: %s %d", s, texts(l), err)
		}
	}
	for _, f := range []func(api.Sequent) api.Errno{
		func(q api.Sequent) api.Errno { _, err := AtomsOf(q); return err },
		func(q api.Sequent) api.Errno { _, err := Decide(q); return err },
	} {
		if err := f(sequent(t, "a1 /\\ a2 /\\ a3 /\\ a4; a5 /\\ a6 |- a7 /\\ a8 /\\ a9")); err != api.ErrLarge {
			t.Error(err)
		}
	}
}

// accepted says whether the kernel accepts an answer's derivation.
func accepted(l []api.KernelStep, q api.Sequent) bool { return kernel.CheckProof(l, q) == api.OK }

func TestDecide(t *testing.T) {
	for s, want := range map[string]string{
		"p; p => q |- q": "proved", "|- p \\/ ~p": "proved", "|- p": "0", "p |- q": "10", "p \\/ q |- p": "01", "|- FALSE": "", "|- TRUE": "proved", "FALSE |- p": "proved", "p; ~p |- FALSE": "proved",
		"\\A x : x |- \\A y : y": "proved", "|- ((p => q) => p) => p": "proved", "p <=> q; q <=> r |- r <=> p": "proved", "p \\/ q; ~p |- q /\\ ~p": "proved", "|- (p <=> q) <=> (q <=> p)": "proved",
		"|- ~(p /\\ q) <=> (~p \\/ ~q)": "proved", "p => q |- ~p => ~q": "01", "~~p |- p": "proved", "|- ~FALSE": "proved", "a1 \\/ a2 \\/ a3 \\/ a4; a1 => b; a2 => b; a3 => b; a4 => b |- b": "proved",
	} {
		q := sequent(t, s)
		a, err := Decide(q)
		got := "proved"
		if a.Verdict == api.ProverRefuted {
			got = ""
			for _, n := range a.Truths {
				got += strconv.Itoa(n)
			}
		} else if !accepted(a.Steps, q) {
			t.Error(s, "not accepted", a.Steps)
		}
		if got != want || err != api.OK || a.Model.Size != 0 {
			t.Error(s, got, err)
		}
	}
}

// random returns a formula with so many connectives.
func random(r *rand.Rand, signs int, atoms []string) api.Expr {
	if signs == 0 {
		return exprs.Name(atoms[r.Intn(len(atoms))])
	}
	if r.Intn(4) == 0 {
		return exprs.Apply("~", random(r, signs-1, atoms))
	}
	left := r.Intn(signs)
	return exprs.Apply([]string{"/\\", "\\/", "=>", "<=>", "<=>"}[r.Intn(5)], random(r, left, atoms), random(r, signs-1-left, atoms))
}

func some(r *rand.Rand, hyps, signs int, atoms []string) api.Sequent {
	var q api.Sequent
	for range r.Intn(hyps + 1) {
		n := r.Intn(signs + 1)
		h := random(r, n, atoms)
		if !slices.ContainsFunc(q.Hyps, func(e api.Expr) bool { return exprs.Same(e, h) }) {
			q.Hyps = append(q.Hyps, h)
			signs -= n
		}
	}
	q.Goal = random(r, signs, atoms)
	return q
}

// truth evaluates a formula directly.
func truth(e api.Expr, values map[string]bool) bool {
	n := e[len(e)-1]
	at := func(i int) bool { return truth(exprs.Part(e, n.Args[i]), values) }
	switch n.Text {
	case "~":
		return !at(0)
	case "/\\":
		return at(0) && at(1)
	case "\\/":
		return at(0) || at(1)
	case "=>":
		return !at(0) || at(1)
	case "<=>":
		return at(0) == at(1)
	}
	return values[n.Text]
}

func TestDecideRandom(t *testing.T) {
	r := rand.New(rand.NewSource(32))
	proofs, most := 0, 0
	for round := range 12000 {
		atoms, signs, hyps := []string{"p", "q", "TRUE", "FALSE"}[:2+r.Intn(3)], api.SureSigns, 6
		if round%4 == 0 {
			atoms, signs, hyps = []string{"p", "q", "r", "s"}, 9, 12
		}
		q := some(r, hyps, signs, atoms)
		a, err := Decide(q)
		switch {
		case err == api.ErrFuel && round%4 == 0:
		case err != api.OK:
			t.Fatal(texts(q.Hyps), "|-", texts([]api.Expr{q.Goal}), err)
		case a.Verdict == api.ProverProved:
			proofs++
			most = max(most, len(a.Steps))
			if !accepted(a.Steps, q) {
				t.Fatal(texts(q.Hyps), "|-", texts([]api.Expr{q.Goal}))
			}
		default:
			names, _ := AtomsOf(q)
			values := map[string]bool{"TRUE": true}
			for i, e := range names {
				values[e[0].Text] = a.Truths[i] == 1
			}
			holds := truth(q.Goal, values)
			for _, h := range q.Hyps {
				holds = holds || !truth(h, values)
			}
			if holds {
				t.Fatal(texts(q.Hyps), "|-", texts([]api.Expr{q.Goal}), a.Truths)
			}
		}
	}
	t.Log(proofs, "proofs, the longest of", most)
}

func TestEqual(t *testing.T) {
	for _, c := range []struct {
		l, a, b string
		equal   bool
	}{
		{"a = b; b = c", "f(a)", "f(c)", true}, {"a = b; b = c", "f(a)", "f(d)", false}, {"", "a", "a", true}, {"", "\\A x : x", "\\A y : y", true}, {"a = b", "g(a, b)", "g(b, a)", true}, {"a = b", "a + c", "b + c", false},
		{"f(f(f(a))) = a; f(f(f(f(f(a))))) = a", "f(a)", "a", true}, {"f(a) = b; f(b) = a", "a", "b", false}, {"f(a) = g(b); a = c", "g(b)", "f(c)", true}, {"f(a) = f(b)", "a", "b", false},
		{"h(a, b) = a", "h(h(a, b), b)", "a", true}, {"a + b = c; f(c) = d", "f(a + b)", "d", true}, {"a = b", "f(a)", "g(b)", false}, {"a = b", "f(a)", "f(a, b)", false}, {"M!a = b", "M!f(b)", "M!f(M!a)", true},
	} {
		l, a, b := list(t, c.l), expr(t, c.a), expr(t, c.b)
		is, err := EqualBy(l, a, b)
		if is != c.equal || err != api.OK {
			t.Error(c, is, err)
		}
		steps, err := ExplainedBy(l, a, b)
		if c.equal && (err != api.OK || !accepted(steps, api.Sequent{Hyps: l, Goal: exprs.Apply("=", a, b)})) {
			t.Error(c, err, steps)
		}
		if !c.equal && err != api.ErrNone {
			t.Error(c, err)
		}
	}
	x, e := expr(t, "x"), expr(t, "x = y")
	big := expr(t, "<<"+strings.Repeat("x, ", 29)+"x>>")
	for i, c := range []struct {
		l    []api.Expr
		a, b api.Expr
		err  api.Errno
	}{
		{slices.Repeat([]api.Expr{e}, 9), nil, nil, api.ErrLarge}, {[]api.Expr{e, nil}, nil, nil, api.ErrEmpty}, {[]api.Expr{e, x, nil}, nil, nil, api.ErrForm}, {[]api.Expr{e}, nil, x, api.ErrEmpty}, {[]api.Expr{e}, x, nil, api.ErrEmpty}, {slices.Repeat([]api.Expr{e}, 8), x, x, api.OK},
		{[]api.Expr{exprs.Apply("=", big, big), exprs.Apply("=", big, big)}, big, big, api.ErrLarge},
	} {
		_, e1 := EqualBy(c.l, c.a, c.b)
		_, e2 := ExplainedBy(c.l, c.a, c.b)
		if e1 != c.err || e2 != c.err {
			t.Error(i, e1, e2)
		}
	}
}

// times is f of f of .. of a name.
func times(n int, s string) string { return strings.Repeat("f(", n) + s + strings.Repeat(")", n) }

// TestEqualThirty has equations and terms of 30 nodes whose derivations are long, and parts that must be told apart.
func TestEqualThirty(t *testing.T) {
	for _, c := range []struct {
		l, a, b string
		equal   bool
	}{
		{"f(a) = b; a = b; f(b) = a", times(17, "a"), "a", true}, {"d = a; d = f(d); c = a; f(c) = c", times(14, "a"), "d", true}, {"f(a) = b; a = b; f(b) = a", times(9, "a"), "a", true}, {"f(a) = a", times(25, "a"), "a", true}, {times(13, "a") + " = a; " + times(8, "a") + " = a", "f(a)", "a", true}, {times(8, "a") + " = a; " + times(6, "a") + " = a", times(7, "a"), "a", false}, {times(8, "a") + " = a; " + times(6, "a") + " = a", times(4, "a"), "a", true},
		{"b = f(f(f(f))); f = f(e); h(f) = a; h(b) = f; e = f; c = f(f)", "h(f(e))", "f(f)", true}, {"c = h(f); e = f(f); h(f) = e; a = f(f(f(h(f)))); e = f; d = f", "h(e)", "f(f(f))", true}, {"f = e; d = f; c = f; b = f(d); d = f(c); f(f(c)) = g(d); a = e", "g(e)", "f(f)", true},
		{"a = b; b = c; c = d; d = e; e = g; g = h; h = i; i = j", "f(a, f(a, j))", "f(j, f(e, a))", true}, {"a = b", "F(LAMBDA x : x, a)", "F(LAMBDA y : y, b)", true}, {"a = b", "F(LAMBDA x : x)", "F(a)", false}, {"a = b", "F(LAMBDA x : a)", "F(LAMBDA x : b)", false}, {"a = b; {x \\in s : x} = b", "f({y \\in s : y})", "f(a)", true}, {"a = b", "f({a})", "f({b})", false}, {"{a} = b; a = c", "f({a}, a)", "f(b, c)", true},
	} {
		l, a, b := list(t, c.l), expr(t, c.a), expr(t, c.b)
		is, err := EqualBy(l, a, b)
		if is != c.equal || err != api.OK {
			t.Error(c, is, err)
		}
		steps, err := ExplainedBy(l, a, b)
		if c.equal && (err != api.OK || !accepted(steps, api.Sequent{Hyps: l, Goal: exprs.Apply("=", a, b)})) || !c.equal && err != api.ErrNone {
			t.Error(c, err, len(steps))
		}
	}
}

func randomTerm(r *rand.Rand, size int) api.Expr {
	switch {
	case size > 2 && r.Intn(2) == 0:
		left := 1 + r.Intn(size-2)
		return exprs.Apply("g", randomTerm(r, left), randomTerm(r, size-1-left))
	case size > 1:
		return exprs.Apply("f", randomTerm(r, size-1))
	}
	return exprs.Name([]string{"a", "b", "c"}[r.Intn(3)])
}

// equalSlowly closes equality over a table of all terms, pair by pair.
func equalSlowly(l []api.Expr, a, b api.Expr) bool {
	var terms []api.Expr
	place := func(e api.Expr) int {
		return slices.IndexFunc(terms, func(x api.Expr) bool { return exprs.Same(e, x) })
	}
	var note func(e api.Expr)
	note = func(e api.Expr) {
		if place(e) < 0 {
			terms = append(terms, e)
		}
		for _, o := range e[len(e)-1].Args {
			note(exprs.Part(e, o))
		}
	}
	side := func(e api.Expr, i int) api.Expr { return exprs.Part(e, e[len(e)-1].Args[i]) }
	note(a)
	note(b)
	for _, e := range l {
		note(side(e, 0))
		note(side(e, 1))
	}
	n := len(terms)
	same := make([]bool, n*n)
	set := func(i, j int) bool {
		changed := !same[i*n+j]
		same[i*n+j] = true
		return changed
	}
	for i := range n {
		set(i, i)
	}
	for _, e := range l {
		set(place(side(e, 0)), place(side(e, 1)))
		set(place(side(e, 1)), place(side(e, 0)))
	}
	for changed := true; changed; {
		changed = false
		for i, x := range terms {
			for j, y := range terms {
				for k := range n {
					if same[i*n+j] && same[j*n+k] {
						changed = set(i, k) || changed
					}
				}
				f, g := x[len(x)-1], y[len(y)-1]
				alike := f.Kind == api.ExprApply && f.Text == g.Text && len(f.Args) == len(g.Args)
				for k := 0; alike && k < len(f.Args); k++ {
					alike = same[place(side(x, k))*n+place(side(y, k))]
				}
				if alike {
					changed = set(i, j) || changed
				}
			}
		}
	}
	return same[place(a)*n+place(b)]
}

func TestEqualRandom(t *testing.T) {
	r := rand.New(rand.NewSource(7))
	equal, most := 0, 0
	for range 3000 {
		var l []api.Expr
		left := 30
		a, b := randomTerm(r, 1+r.Intn(6)), randomTerm(r, 1+r.Intn(6))
		if r.Intn(3) == 0 {
			a = randomTerm(r, 6+r.Intn(14))
		}
		left -= len(a) + len(b)
		for len(l) < 8 && left > 3 {
			e := exprs.Apply("=", randomTerm(r, 1+r.Intn(3)), randomTerm(r, 1+r.Intn(2)))
			if left -= len(e); left < 0 {
				break
			}
			l = append(l, e)
		}
		is, err := EqualBy(l, a, b)
		if is != equalSlowly(l, a, b) || err != api.OK {
			t.Fatal(texts(l), texts([]api.Expr{a, b}), is, err)
		}
		steps, err := ExplainedBy(l, a, b)
		if !is {
			if err != api.ErrNone {
				t.Fatal(err)
			}
			continue
		}
		equal++
		most = max(most, len(steps))
		q := api.Sequent{Goal: exprs.Apply("=", a, b)}
		for _, e := range l {
			if !slices.ContainsFunc(q.Hyps, func(x api.Expr) bool { return exprs.Same(e, x) }) {
				q.Hyps = append(q.Hyps, e)
			}
		}
		if !accepted(steps, q) {
			t.Fatal(texts(l), texts([]api.Expr{a, b}), err)
		}
	}
	if equal < 500 || most > 100 {
		t.Error(equal, "equal, the longest derivation of", most)
	}
}

func TestRefuted(t *testing.T) {
	for s, want := range map[string]string{
		"x < y; y < x": "[1 1]", "x <= y; y <= x": "", "x = 1; x = 2": "[1 1]", "1 < 0": "[1]", "x < x": "[1]", "2 * x > 3; 2 * x < 5; x = 2": "", "x >= 2; x <= 1": "[1 1]", "2 * x = 1": "", "x - x < 0": "[1]",
		"(x - x + 2) * y >= 3; y <= 1": "[1 2]", "f(a) < f(b); f(b) < f(a)": "[1 1]", "x * y < x * y": "[1]", "-x > 0; x > 0": "[1 1]", "x + y <= 1; x >= 1; y >= 1": "[1 1 1]", "x = y": "", "0 = 0": "", "0 = 1": "[1]",
	} {
		l := list(t, s)
		numbers, err := RefutedBy(l)
		follows := false
		if err == api.OK {
			follows, _ = kernel.FollowsBy(l, numbers, exprs.Name("FALSE"))
		}
		if follows != (want != "") || (err == api.ErrNone) != (want == "") {
			t.Error(s, numbers, err)
		}
	}
	cmp := expr(t, "x < y")
	for s, want := range map[string]api.Errno{
		"x < y; z": api.ErrForm, "x # y": api.ErrForm, "a + b + c + d < e": api.ErrLarge, "a + b + c < d": api.ErrNone, "x - x + a + b + c + d < 5": api.ErrLarge, "0 * 1 * (a + b) < c + d": api.ErrNone,
		"10000 * (10000 * (10000 * x)) < 0": api.ErrLarge, "10000 * (10000 * (10 * x)) < 0": api.ErrNone, "(a - a) * b + c + d + e < 0": api.ErrNone, "a * b + c + d + e + f < 0": api.ErrLarge, "a * b + c + d + a < 0": api.ErrNone,
	} {
		if _, err := RefutedBy(list(t, s)); err != want {
			t.Error(s, err)
		}
	}
	_, e1 := RefutedBy(nil)
	_, e2 := RefutedBy(slices.Repeat([]api.Expr{cmp}, 9))
	_, e3 := RefutedBy([]api.Expr{cmp, nil, expr(t, "x")})
	_, e4 := RefutedBy(slices.Repeat([]api.Expr{cmp}, 8))
	if e1 != api.ErrEmpty || e2 != api.ErrLarge || e3 != api.ErrEmpty || e4 != api.ErrNone {
		t.Error(e1, e2, e3, e4)
	}
}

// bound says that a*x + b*y + c is at least 0, in rational numbers with a common denominator, which does not matter.
type bound struct{ a, b, c int }

// feasible says whether comparisons of forms in x and y have a rational solution, by Fourier's elimination.
func feasible(l []api.Expr) bool {
	var all []bound
	for _, e := range l {
		sides := [2]bound{valued(exprs.Part(e, e[len(e)-1].Args[0])), valued(exprs.Part(e, e[len(e)-1].Args[1]))}
		less := func(i, j, strict int) bound {
			return bound{sides[j].a - sides[i].a, sides[j].b - sides[i].b, sides[j].c - sides[i].c - strict}
		}
		switch e[len(e)-1].Text {
		case "<":
			all = append(all, less(0, 1, 1))
		case "<=":
			all = append(all, less(0, 1, 0))
		case ">":
			all = append(all, less(1, 0, 1))
		case ">=":
			all = append(all, less(1, 0, 0))
		default:
			all = append(all, less(0, 1, 0), less(1, 0, 0))
		}
	}
	for range 2 {
		var next []bound
		for _, p := range all {
			if p.a == 0 {
				next = append(next, bound{p.b, 0, p.c})
			}
			for _, q := range all {
				if p.a > 0 && q.a < 0 {
					next = append(next, bound{p.b*-q.a + q.b*p.a, 0, p.c*-q.a + q.c*p.a})
				}
			}
		}
		all = next
	}
	return !slices.ContainsFunc(all, func(p bound) bool { return p.c < 0 })
}

func valued(e api.Expr) bound {
	n := e[len(e)-1]
	if n.Kind == api.ExprNumber {
		return bound{0, 0, n.N}
	}
	if n.Kind == api.ExprName {
		return map[string]bound{"x": {1, 0, 0}, "y": {0, 1, 0}}[n.Text]
	}
	f, g := valued(exprs.Part(e, n.Args[0])), valued(exprs.Part(e, n.Args[1]))
	if n.Text == "*" {
		return bound{f.c * g.a, f.c * g.b, f.c * g.c}
	}
	return bound{f.a + g.a, f.b + g.b, f.c + g.c}
}

func TestRefutedRandom(t *testing.T) {
	r := rand.New(rand.NewSource(3))
	refuted := 0
	for range 4000 {
		var l []api.Expr
		for range 1 + r.Intn(4) {
			side := func() string {
				return strconv.Itoa(r.Intn(6)) + " * x + " + strconv.Itoa(r.Intn(6)) + " * y + " + strconv.Itoa(r.Intn(6))
			}
			left := side()
			right := strconv.Itoa(r.Intn(6))
			if r.Intn(2) == 0 {
				left, right = right, left
			}
			l = append(l, expr(t, left+[]string{" < ", " <= ", " = ", " >= ", " > "}[r.Intn(5)]+right))
		}
		numbers, err := RefutedBy(l)
		follows := false
		if err == api.OK {
			follows, _ = kernel.FollowsBy(l, numbers, exprs.Name("FALSE"))
			refuted++
		}
		if follows != (err == api.OK) || err != api.OK && err != api.ErrNone {
			t.Fatal(texts(l), numbers, err)
		}
		if err == api.ErrNone && !feasible(l) {
			t.Fatal(texts(l))
		}
	}
	t.Log(refuted)
}

func TestModelAgainst(t *testing.T) {
	for _, c := range []struct {
		q    string
		want api.KernelModel
		err  api.Errno
	}{
		{"|- \\A x : x \\in s", api.KernelModel{Size: 2, Names: []string{"s"}, Values: []int{0}, Members: make([]int, 4)}, api.OK},
		{"|- p", api.KernelModel{Size: 2, Names: []string{"p"}, Values: []int{0}, Members: make([]int, 4)}, api.OK},
		{"a \\in b |- b \\in a", api.KernelModel{Size: 2, Names: []string{"a", "b"}, Values: []int{0, 1}, Members: []int{0, 1, 0, 0}}, api.OK},
		{"|- \\A x, y, z : x = y \\/ y = z \\/ x = z", api.KernelModel{Size: 3, Members: make([]int, 9)}, api.OK},
		{"|- FALSE", api.KernelModel{Size: 2, Members: make([]int, 4)}, api.OK},
		{"|- p \\/ ~p", api.KernelModel{}, api.ErrNone}, {"|- f(a)", api.KernelModel{}, api.ErrRefused}, {"|- a + 1 = 2", api.KernelModel{}, api.ErrRefused}, {"|- M!p", api.KernelModel{}, api.ErrRefused}, {"|- \\A f : f(f)", api.KernelModel{}, api.ErrRefused},
		{"a = b |- c = d", api.KernelModel{}, api.ErrLarge}, {"a = b; d |- BOOLEAN = c", api.KernelModel{}, api.ErrRefused},
		{"p |- TRUE = p", api.KernelModel{}, api.ErrNone}, {"~p |- p = FALSE", api.KernelModel{Size: 3, Names: []string{"p"}, Values: []int{2}, Members: make([]int, 9)}, api.OK},
	} {
		m, err := ModelAgainst(sequent(t, c.q))
		if len(m.Names) != len(c.want.Names) || len(m.Names) > 0 && !reflect.DeepEqual(m, c.want) || m.Size != c.want.Size || !slices.Equal(m.Members, c.want.Members) || err != c.err {
			t.Error(c.q, m, err)
		}
		if err == api.OK {
			if holds, err := kernel.HoldsIn(m, sequent(t, c.q)); holds || err != api.OK {
				t.Error(c.q, err)
			}
		}
	}
}

func TestProve(t *testing.T) {
	for s, want := range map[string]int{
		"p(1) /\\ q(2); r |- p(1) /\\ q(2)": api.ProverProved, "|- TRUE": api.ProverProved, "p; q |- p /\\ q": api.ProverProved, "a = b; p; b = c |- f(a) = f(c)": api.ProverProved, "x < y; y < x |- FALSE": api.ProverProved, "x + y = z |- FALSE": api.ProverOpen,
		"|- p": api.ProverRefuted, "a1; a2; a3 |- a4": api.ProverRefuted, "|- f(a)": api.ProverOpen, "\\A x : x \\in s |- \\E x : x \\in s": api.ProverOpen, "\\E x : x \\in s |- \\A x : x \\in s": api.ProverRefuted, "|- \\A x : x = x": api.ProverOpen, "|- M!p": api.ProverOpen,
		"|- a = a": api.ProverProved, "a1 \\/ a2 \\/ a3 \\/ a4; a5 /\\ a6 /\\ a7 /\\ a8 /\\ a9 |- a1": api.ProverOpen,
		"a1 \\/ a2 \\/ a3 \\/ a4; a5 /\\ a6 /\\ a7 /\\ a8 /\\ a9 |- a1 \\/ a2 \\/ a3 \\/ a4": api.ProverProved,
	} {
		q := sequent(t, s)
		a, err := Prove(q)
		if a.Verdict != want || err != api.OK {
			t.Error(s, a, err)
		}
		switch {
		case a.Verdict == api.ProverProved:
			if !accepted(a.Steps, q) {
				t.Error(s, a.Steps)
			}
		case a.Verdict == api.ProverRefuted && len(a.Truths) == 0:
			if holds, err := kernel.HoldsIn(a.Model, q); holds || err != api.OK {
				t.Error(s, a.Model)
			}
		}
	}
	tuple := func(s string) api.Expr {
		whole := exprs.Make(api.Node{Kind: api.ExprTuple}, slices.Repeat([]api.Expr{exprs.Name("x")}, 30)...)
		return exprs.Make(api.Node{Kind: api.ExprTuple}, whole, whole, exprs.Name(s))
	}
	large := exprs.Apply("=", tuple("x"), tuple("y"))
	q := api.Sequent{Hyps: []api.Expr{large}, Goal: large}
	if a, err := Prove(q); a.Verdict != api.ProverProved || err != api.OK || !accepted(a.Steps, q) {
		t.Error(a, err)
	}
}
