package level

import (
	"slices"
	"strconv"
	"strings"
	"testing"

	"stutter/api"
	"stutter/exprs"
	"stutter/parse"
)

func expr(t *testing.T, s string) api.Expr {
	t.Helper()
	e, p, err := parse.ParseExpr(strings.Split(s, "\n"))
	if err != api.OK {
		t.Fatalf("%s: %v %d", s, p, err)
	}
	return e
}

// def reads "Name(a, G/1) == body"; "!" before it is Recursive.
func def(t *testing.T, s string) api.Def {
	t.Helper()
	head, body, _ := strings.Cut(s, " == ")
	d := api.Def{Recursive: strings.HasPrefix(head, "!"), Body: expr(t, body)}
	name, params, _ := strings.Cut(strings.Trim(head, "!)"), "(")
	d.Name = name
	if params != "" {
		for _, p := range strings.Split(params, ", ") {
			p, arity, _ := strings.Cut(p, "/")
			n, _ := strconv.Atoi(arity)
			d.Params, d.Arities = append(d.Params, p), append(d.Arities, n)
		}
	}
	return d
}

func scope(t *testing.T, defs ...string) api.LevelScope {
	t.Helper()
	s := api.LevelScope{Constants: []string{"c", "D"}, Vars: []string{"x", "y"}}
	for _, d := range defs {
		s.Defs = append(s.Defs, def(t, d))
	}
	return s
}

var defs = []string{"F(a) == a'", "G == x + c", "Next == x' = x + 1 /\\ UNCHANGED y", "Spec == x = 0 /\\ [][Next]_x /\\ WF_x(Next)", "!S(n) == IF n = 0 THEN x ELSE S(n - 1)", "H(K/1) == K(1)", "P(a) == a", "Bad == x''",
	"!E(n) == IF n = 0 THEN TRUE ELSE O(n - 1)", "!O(n) == IF n = 0 THEN x ELSE E(n - 1)", "Q(u) == 1", "!R(n) == R(n)'", "M == E(y)"}

func TestLevelOf(t *testing.T) {
	s := scope(t, defs...)
	for text, want := range map[string]int{
		"1": 0, "c": 0, "TRUE": 0, "x": 1, "x'": 2, "c'": 0, "(c')'": 0, "(x')'": -1, "UNCHANGED x": 2, "UNCHANGED c": 0, "UNCHANGED (x')": -1, "ENABLED (x' = 1)": 1, "ENABLED ([]x)": -1, "ENABLED 1": 1, `x \cdot y'`: 2, `x \cdot ([]y)`: -1, "[x' = x]_x": 2, "[x]_(x')": -1, "<<1>>_(1)": 2, "<<[]x>>_x": -1,
		"[]x": 3, "[](x' = x)": -1, "[][x' = x]_x": 3, "[]<<x' = x>>_x": -1, "<><<x' = x>>_x": 3, "<>[x' = x]_x": -1, "[]<>x": 3, "[]1": 3, "x ~> y": 3, "x ~> []y": 3, "x' ~> y": -1, "x ~> y'": -1, "WF_x(x')": 3, "SF_(x')(x)": -1, "WF_x([]x)": -1, "~[]x": 3, "x' /\\ []x": 3, "x + ([]x)": -1, "x = x'": 2, "<<x, []y>>": -1,
		`\A z \in 1 : []x`: 3, `\A z \in x : []x`: -1, `\A z \in x : x'`: 2, `\A z \in x' : z`: 2, `\E z \in []x : z`: -1, `\A z : []x`: 3, `\E z : z`: 0, `CHOOSE z \in 1 : []x`: -1, "LET f == x'' IN 1": 0, "LET f == x'' IN f": -1, "LET f(a) == a' IN f(x)": 2, "LET f(a) == a' IN f(f(x))": -1, "LET f(a) == a' IN f(f(c))": 0,
		"LET RECURSIVE f(_) f(a) == IF a = 0 THEN x ELSE f(a) IN f(1)": 1, "LET RECURSIVE f(_) f(a) == IF a = 0 THEN x ELSE f(a) IN f(x')": 2, "LET RECURSIVE f f == f' IN f": 0, "LET RECURSIVE f f == f' + x IN f": -1,
		"F(G)": 2, "F(F(x))": -1, "F(F(c))": 0, "Next": 2, "Spec": 3, "S(1)": 1, "S(x')": 2, "H(F)": 0, "H(LAMBDA u : u + x)": 1, "H(LAMBDA u : x'')": -1, "H(P)": 0, "H(D)": 0, "P([]x)": 3, "Bad": -1, "P(Bad)": -1, "E(1)": 1, "O(1)": 1, "E(x')": 2, "Q(x')": 0, "R(1)": 0, "R(x)": -1, "D(x', y)": 2, "D([]x)": -1, "H(Bad2)": -9,
		`\A z \in 1 : z'`: 0, "[a |-> x].a": 1, "[f EXCEPT ![1] = @]": -9, "[c EXCEPT ![1] = @ + x]": 1, "IF x THEN []x ELSE y": -1, "LET f(a) == x IN H(f)": 1,
	} {
		if want == -9 {
			if _, err := LevelOf(s, expr(t, text)); err != api.ErrMissing {
				t.Errorf("%s: %d", text, err)
			}
			continue
		}
		got, err := LevelOf(s, expr(t, text))
		if want == -1 && err != api.ErrLevel || want >= 0 && (got != want || err != api.OK) {
			t.Errorf("%s: %d %d, want %d", text, got, err, want)
		}
	}
}

// TestMutual has definitions that reach one another: each is evaluated with the levels of its operands, unless it is within itself.
func TestMutual(t *testing.T) {
	few := []string{"!A(a) == B(a)", "!B(b) == b' = 1 \\/ A(b)", "!C(n) == x \\/ D1(n)", "!D1(n) == E(n)'", "!E(n) == n \\/ C(n)", "!I(n) == ENABLED (J(n))", "!J(n) == n \\/ I(x)"}
	var many []string
	for i := range 12 {
		many = append(many, "!R"+strconv.Itoa(i)+"(n) == n \\/ R"+strconv.Itoa((i+1)%12)+"(n) \\/ R"+strconv.Itoa((i+5)%12)+"(n)")
	}
	for text, want := range map[string]int{"A(x)": 2, "B(x)": 2, "A(c)": 0, "A(x')": -1, "C(1)": -1, "I(1)": 1, "J(1)": 1, "J(x')": 2, "J([]x)": -1} {
		got, err := LevelOf(scope(t, few...), expr(t, text))
		if want == -1 && err != api.ErrLevel || want >= 0 && (got != want || err != api.OK) {
			t.Errorf("%s: %d %d, want %d", text, got, err, want)
		}
	}
	var round []string
	for i := range 40 {
		round = append(round, "!T"+strconv.Itoa(i)+"(n) == T"+strconv.Itoa((i+1)%40)+"(n)")
	}
	round[39] = "!T39(n) == n' \\/ T0(n)"
	for text, want := range map[string]int{"T0(1)": 0, "T0(x)": 2, "T20(x)": 2, "T5(c)": 0} {
		if got, err := LevelOf(scope(t, round...), expr(t, text)); got != want || err != api.OK {
			t.Errorf("%s: %d %d, want %d", text, got, err, want)
		}
	}
	for text, want := range map[string]int{"R0(1)": 0, "R3(x)": 1, "R11(x')": 2} {
		if got, err := LevelOf(scope(t, many...), expr(t, text)); got != want || err != api.OK {
			t.Errorf("%s: %d %d, want %d", text, got, err, want)
		}
	}
}

func TestDeep(t *testing.T) {
	s := api.LevelScope{Vars: []string{"x"}}
	s.Defs = append(s.Defs, def(t, "A0 == x"))
	for i := 1; i < 40; i++ {
		a := "A" + strconv.Itoa(i-1)
		s.Defs = append(s.Defs, def(t, "A"+strconv.Itoa(i)+" == "+a+" + "+a))
	}
	if l, err := LevelOf(s, exprs.Name("A39")); l != 1 || err != api.OK {
		t.Error(l, err)
	}
	deep := exprs.Name("x")
	for i := range 30 {
		f := exprs.Name("f" + strconv.Itoa(i))
		deep = exprs.Make(api.Node{Kind: api.ExprLet, N: 1, Names: []string{f[0].Text}}, exprs.Apply("=", deep, f), f)
	}
	if l, err := LevelOf(s, deep); l != 1 || err != api.OK {
		t.Error(l, err)
	}
	s.Defs = nil
	var all []string
	for i := range 30 {
		all = append(all, "R"+strconv.Itoa(i)+"(p)")
	}
	for i := range 30 {
		s.Defs = append(s.Defs, def(t, "!R"+strconv.Itoa(i)+"(p) == <<<<"+strings.Join(all[:15], ", ")+">>,\n <<"+strings.Join(all[15:22], ", ")+",\n "+strings.Join(all[22:], ", ")+">>, x>>"))
	}
	if l, err := LevelOf(s, expr(t, "R3(x')")); l != 2 || err != api.OK {
		t.Error(l, err)
	}
}

func TestLevelsIn(t *testing.T) {
	s := scope(t, defs...)
	for text, want := range map[string][]int{
		"x' = x + 1": {1, 2, 1, 0, 1, 2}, "F(G)": {1, 2}, `\A z \in x : z`: {1, 0, 1}, "LET f(a) == a' + x' IN f(x)": {0, 0, 1, 2, 2, 1, 2, 2}, "LET f == x'' IN 1": {1, 2, -1, 0, 0}, "LET RECURSIVE f(_) f(a) == f(x) + y IN 1": {1, 1, 1, 1, 0, 0}, "H(LAMBDA u : u + x)": {0, 1, 1, 1, 1}, "H(F)": {0, 0},
	} {
		if l, _, err := LevelsIn(s, expr(t, text)); !slices.Equal(l, want) || err != api.OK {
			t.Errorf("%s: %v %d", text, l, err)
		}
	}
	for text, want := range map[string]int{"F(F(x))": 2, "1 + x''": 3, "Bad": 0, "H(LAMBDA u : x'')": 2, "LET f == x'' IN 1 + f": 4, "x + ([]y)": 3, "P(Bad)": 0, "H(P) + R(x)": 3} {
		if _, at, err := LevelsIn(s, expr(t, text)); at != want || err != api.ErrLevel {
			t.Errorf("%s: %d %d", text, at, err)
		}
	}
}

func TestDefLevels(t *testing.T) {
	s := scope(t, append(defs, "T(a, b) == [][a]_b", "U(a) == x'' + a", "V(a, b) == a ~> b")...)
	l, err := DefLevels(s)
	if err != api.OK {
		t.Fatal(err)
	}
	for i, want := range map[int]api.DefLevel{
		0: {Level: 0, Counts: []bool{true}, Most: []int{1}}, 1: {Level: 1}, 3: {Level: 3}, 4: {Level: 1, Counts: []bool{false}, Most: []int{2}}, 5: {Level: 0, Counts: []bool{true}, Most: []int{3}}, 6: {Level: 0, Counts: []bool{true}, Most: []int{3}}, 7: {Level: -1}, 10: {Level: 0, Counts: []bool{false}, Most: []int{3}},
		13: {Level: 3, Counts: []bool{false, false}, Most: []int{2, 1}}, 14: {Level: -1, Counts: []bool{false}, Most: []int{-1}}, 15: {Level: 3, Counts: []bool{false, false}, Most: []int{3, 3}},
	} {
		if got := l[i]; got.Level != want.Level || !slices.Equal(got.Counts, want.Counts) || !slices.Equal(got.Most, want.Most) {
			t.Errorf("%d: %v", i, got)
		}
	}
}

func TestSources(t *testing.T) {
	s := scope(t, defs...)
	for text, want := range map[string][]int{"x' = x + 1 /\\ UNCHANGED y": {1, 7}, "x = 0 /\\ [][Next]_x /\\ WF_x(Next)": {6, 10}, "1 + c": nil, "F(G)": {1}, "x + y": {0, 1}, "LET f(a) == x' IN f(1)": {3}, "H(LAMBDA u : u + x)": {1}, "Q(x')": nil} {
		if l, err := SourcesOf(s, expr(t, text)); !slices.Equal(l, want) || err != api.OK {
			t.Errorf("%s: %v %d", text, l, err)
		}
	}
}

func TestVars(t *testing.T) {
	s := scope(t, append(defs, "I(a, b) == (a + y)' = b", "J(a) == I(a, x)", "L(K/1) == K(1)'")...)
	for text, want := range map[string][2]string{
		"x + c": {"x", ""}, "Next": {"x y", "x y"}, "F(x + y)": {"x y", "x y"}, "F(c)": {"", ""}, "E(1)": {"x", ""}, "[x]_y": {"x y", "y"}, "<<x>>_y": {"x y", "y"}, "ENABLED (x' = y)": {"x y", ""}, "J(x)": {"x y", "x y"}, "J(1)": {"x y", "y"}, `\A x \in 1 : x' = y`: {"y", ""}, "F(G)": {"x", "x"}, "L(LAMBDA u : u + x)": {"x", "x"}, "L(G2)": {"", "?"},
		"LET f == x' IN y": {"x y", "x"}, "UNCHANGED <<x, y>>": {"x y", "x y"}, `\A u \in {x} : F(u)`: {"x", ""}, "Q(x')": {"x", "x"}, "(ENABLED (x = 1))'": {"x", "x"}, "M": {"x y", ""}, "WF_x(y')": {"x y", "y"}, "S(x)'": {"x", "x"},
	} {
		if want[1] == "?" {
			continue
		}
		e := expr(t, text)
		if l, err := VarsOf(s, e); strings.Join(l, " ") != want[0] || err != api.OK {
			t.Errorf("%s: %v %d", text, l, err)
		}
		if l, err := PrimedIn(s, e); strings.Join(l, " ") != want[1] || err != api.OK {
			t.Errorf("%s: primed %v %d", text, l, err)
		}
	}
}

func TestErrors(t *testing.T) {
	s := scope(t, defs...)
	for text, want := range map[string]api.Errno{"zz": api.ErrMissing, "F": api.ErrArity, "F(1, 2)": api.ErrArity, "x(1)": api.ErrArity, "D(1, 2) + D": api.OK, "H(F)": api.OK, "D(F)": api.OK, "{F}": api.ErrArity, `\A z \in 1 : z(1)`: api.ErrArity, "LET f(a) == a IN f": api.ErrArity, "A!B": api.ErrMissing, "F(zz) + G(1)": api.ErrMissing, "G(1) + zz": api.ErrArity, "zz(G(1))": api.ErrArity} {
		e := expr(t, text)
		_, e1 := LevelOf(s, e)
		_, at, e2 := LevelsIn(s, e)
		_, e3 := SourcesOf(s, e)
		_, e4 := VarsOf(s, e)
		_, e5 := PrimedIn(s, e)
		if e1 != want || e2 != want || e3 != want || e4 != want || e5 != want || at != 0 {
			t.Errorf("%s: %d %d %d %d %d", text, e1, e2, e3, e4, e5)
		}
	}
	if _, err := LevelOf(s, nil); err != api.ErrEmpty {
		t.Error(err)
	}
	names := func(n int) (out []string) {
		for i := range n {
			out = append(out, "n"+strconv.Itoa(i))
		}
		return out
	}
	d := func(change func(*api.Def)) api.LevelScope {
		s := scope(t, "A(p, q/1) == q(p)", "B == 1")
		change(&s.Defs[1])
		return s
	}
	for i, c := range []struct {
		s   api.LevelScope
		at  int
		err api.Errno
	}{
		{api.LevelScope{}, 0, api.OK}, {api.LevelScope{Constants: names(9)}, 0, api.ErrLarge}, {api.LevelScope{Vars: names(9)}, 0, api.ErrLarge}, {api.LevelScope{Vars: names(8), Constants: []string{"TRUE"}}, 0, api.ErrName}, {api.LevelScope{Vars: names(8), Constants: []string{"n7"}}, 0, api.ErrExists},
		{api.LevelScope{Constants: []string{"x"}, Vars: []string{"x", ""}}, 0, api.ErrName}, {api.LevelScope{Constants: []string{"x", "x", "1"}}, 0, api.ErrName}, {api.LevelScope{Vars: []string{"x", "x", "IF"}}, 0, api.ErrName}, {api.LevelScope{Constants: []string{"x", "x"}, Defs: make([]api.Def, 1)}, 0, api.ErrExists}, {api.LevelScope{Vars: []string{"x", "x"}}, 0, api.ErrExists},
		{api.LevelScope{Defs: make([]api.Def, 41)}, 0, api.ErrLarge}, {d(func(d *api.Def) { d.Name = "1" }), 1, api.ErrName}, {d(func(d *api.Def) { d.Params = []string{"IF"} }), 1, api.ErrName}, {d(func(d *api.Def) { d.Name = "A" }), 1, api.ErrExists}, {d(func(d *api.Def) { d.Name = "x" }), 1, api.ErrExists},
		{d(func(d *api.Def) { d.Params = names(5) }), 1, api.ErrLarge}, {d(func(d *api.Def) { d.Params = names(4) }), 1, api.ErrShape}, {d(func(d *api.Def) { d.Params, d.Arities = names(1), []int{5} }), 1, api.ErrRange}, {d(func(d *api.Def) { d.Params, d.Arities = []string{"u", "u"}, []int{0, 0} }), 1, api.ErrDouble},
		{d(func(d *api.Def) { d.Params, d.Arities = []string{"x"}, []int{0} }), 1, api.ErrClash}, {d(func(d *api.Def) { d.Params, d.Arities = []string{"B"}, []int{0} }), 1, api.ErrClash}, {d(func(d *api.Def) { d.Body = nil }), 1, api.ErrEmpty}, {d(func(d *api.Def) { d.Body = exprs.Name("zz") }), 1, api.ErrMissing}, {d(func(d *api.Def) { d.Body = exprs.Name("B") }), 1, api.ErrMissing},
		{d(func(d *api.Def) { d.Body, d.Recursive = exprs.Name("B"), true }), 0, api.OK}, {d(func(d *api.Def) { d.Body = exprs.Name("A") }), 1, api.ErrArity}, {scope(t, "A == B", "B == 1"), 0, api.ErrMissing}, {scope(t, "!A == B", "B == A"), 0, api.OK}, {scope(t, "A(p, B) == 1", "B == 1"), 0, api.ErrClash},
		{scope(t, "A(q/1) == q"), 0, api.ErrArity}, {scope(t, "A(q/1) == D(q)"), 0, api.OK}, {scope(t, "A(q/1) == q(1, 2)"), 0, api.ErrArity}, {scope(t, "A(q) == q(1)"), 0, api.ErrArity}, {scope(t, "A == \\A x \\in 1 : x"), 0, api.OK},
	} {
		if at, err := CheckScope(c.s); at != c.at || err != c.err {
			t.Errorf("%d: %d %d", i, at, err)
		}
		if _, err := LevelOf(c.s, exprs.Name("TRUE")); err != c.err {
			t.Errorf("%d: level %d", i, err)
		}
		if _, err := DefLevels(c.s); err != c.err {
			t.Errorf("%d: levels %d", i, err)
		}
		_, e1 := SourcesOf(c.s, exprs.Name("TRUE"))
		_, e2 := VarsOf(c.s, exprs.Name("TRUE"))
		_, e3 := PrimedIn(c.s, exprs.Name("TRUE"))
		if e1 != c.err || e2 != c.err || e3 != c.err {
			t.Errorf("%d: %d %d %d", i, e1, e2, e3)
		}
	}
}
