package instance

import (
	"slices"
	"strconv"
	"strings"
	"testing"

	"stutter/api"
	"stutter/exprs"
	"stutter/level"
	"stutter/parse"
	"stutter/tree"
)

func expr(t *testing.T, s string) api.Expr {
	t.Helper()
	e, p, err := parse.ParseExpr(strings.Split(s, "\n"))
	if err != api.OK {
		t.Fatalf("%s: %v %d", s, p, err)
	}
	return e
}

func text(e api.Expr) string {
	s, _ := tree.FormatExpr(e)
	return s
}

func def(t *testing.T, s string) api.Def {
	t.Helper()
	head, body, _ := strings.Cut(s, " == ")
	d := api.Def{Recursive: strings.HasPrefix(head, "!"), Local: strings.HasPrefix(head, "?"), Body: expr(t, body)}
	name, params, _ := strings.Cut(strings.Trim(head, "!?)"), "(")
	d.Name = name
	if params != "" {
		for _, p := range strings.Split(params, ", ") {
			p, arity, _ := strings.Cut(p, "/")
			n, _ := strconv.Atoi(arity)
			d.Params, d.Arities = append(d.Params, p), append(d.Arities, n)
		}
	}
	return d
}

func scope(t *testing.T, defs ...string) api.LevelScope {
	t.Helper()
	s := api.LevelScope{Constants: []string{"c", "D"}, Vars: []string{"x", "y"}}
	for _, d := range defs {
		s.Defs = append(s.Defs, def(t, d))
	}
	return s
}

// putOf reads "x <- e; y <- f".
func putOf(t *testing.T, s string) api.Substitution {
	var out api.Substitution
	for _, part := range strings.Split(s, "; ") {
		if name, by, is := strings.Cut(part, " <- "); is {
			out.Names = append(out.Names, name)
			out.With = append(out.With, expr(t, by))
		}
	}
	return out
}

func TestSubstituted(t *testing.T) {
	for _, c := range []struct {
		e, s, want string
		captures   []int
	}{
		{`\E y \in S : x = y`, "x <- y", `\E b_1 \in S : y = b_1`, []int{4}}, {"x + y", "x <- y; y <- x", "y + x", nil}, {"F(x) + F", "F <- G", "G(x) + G", nil}, {`\A x \in x : x`, "x <- z", `\A x \in z : x`, nil}, {"r.x", "x <- z", "r.x", nil}, {`[x |-> x]`, "x <- z", "[x |-> z]", nil},
		{`\A y \in x : x + y + b_1`, "x <- y", `\A b_2 \in y : y + b_2 + b_1`, []int{6}}, {`\A y \in y : x + y`, "x <- y + b_1", `\A b_2 \in y : y + b_1 + b_2`, []int{4}}, {`\A y, z : x + y + z`, "x <- z", `\A y, b_1 : z + y + b_1`, []int{5}}, {`\A y, z : x + y`, "x <- z + y", `\A b_1, b_2 : z + y + b_1`, []int{3}},
		{`\A y : \A z : x + y + z`, "x <- z + y", `\A b_1 : \A b_2 : z + y + b_1 + b_2`, []int{5, 6}}, {`\A y : x + (\E x : x + y)`, "x <- y", `\A b_1 : y + \E x : x + b_1`, []int{6}}, {"LET f(a) == x + a IN f(x)", "x <- a", "LET f(b_1) == a + b_1 IN f(a)", []int{5}}, {"LET f(a) == x + a IN f(x)", "x <- f", "LET b_1(a) == f + a IN b_1(f)", []int{5}},
		{"LET RECURSIVE f(_) f(a) == x + f(a) IN f(1)", "x <- f", "LET RECURSIVE b_1(_) b_1(a) == f + b_1(a) IN b_1(1)", []int{6}}, {"P(LAMBDA u : x + u)", "x <- u; P <- Q", "Q(LAMBDA b_1 : u + b_1)", []int{3}}, {"{u \\in x : u = z}", "x <- u", "{u \\in u : u = z}", nil}, {`CHOOSE u \in 1 : u = x`, "x <- \"u\"", `CHOOSE u \in 1 : u = "u"`, nil},
		{"[f EXCEPT ![x] = @ + x]", "x <- [g EXCEPT ![1] = @]", "[f EXCEPT ![[g EXCEPT ![1] = @]] = @ + [g EXCEPT ![1] = @]]", nil}, {"A!B + x", "x <- 1", "A!B + 1", nil}, {`\A y : y`, "x <- y", `\A y : y`, nil}, {"x", "", "x", nil},
	} {
		got, err := Substituted(expr(t, c.e), putOf(t, c.s))
		if text(got) != c.want || err != api.OK {
			t.Errorf("%s, %s: %s %d", c.e, c.s, text(got), err)
		}
		if l, err := CapturesIn(expr(t, c.e), putOf(t, c.s)); !slices.Equal(l, c.captures) || err != api.OK {
			t.Errorf("%s, %s: %v %d", c.e, c.s, l, err)
		}
	}
	// names are renamed, too, in the operands of a name for which no operator can be put
	for _, c := range []struct {
		e, s     string
		captures []int
	}{
		{"F(LET F == 0 IN S)", "S <- F; F <- 1", []int{2}}, {`F(\E y \in T : x = y)`, "x <- y; F <- 1 + 1", []int{4}}, {`G(F(\E y : x = y), \A z : x + z)`, "x <- y + z; F <- 1", []int{3, 8}}, {`F(F(\A y : x))`, "x <- y; F <- <<>>", []int{1}}, {"P(LAMBDA u : x + u)", "x <- u; P <- 1", []int{3}}, {`\A y : F(x, \E z : z)`, "x <- z; F <- {y}", []int{4}}, {"F(x)", "x <- y; F <- 1", nil},
	} {
		if got, err := Substituted(expr(t, c.e), putOf(t, c.s)); len(got) > 0 || err != api.ErrArity {
			t.Errorf("%s, %s: %s %d", c.e, c.s, text(got), err)
		}
		if l, err := CapturesIn(expr(t, c.e), putOf(t, c.s)); !slices.Equal(l, c.captures) || err != api.OK {
			t.Errorf("%s, %s: %v %d", c.e, c.s, l, err)
		}
	}
	x, bad := exprs.Name("x"), exprs.Name("1")
	many := make([]string, 61)
	for i, c := range []struct {
		e     api.Expr
		s     api.Substitution
		err   api.Errno
		other api.Errno
	}{
		{nil, api.Substitution{}, api.ErrEmpty, api.ErrEmpty}, {x, api.Substitution{Names: []string{"x"}}, api.ErrShape, api.ErrShape}, {x, api.Substitution{Names: many, With: make([]api.Expr, 61)}, api.ErrLarge, api.ErrLarge}, {x, api.Substitution{Names: []string{"x", "x", "1"}, With: []api.Expr{x, bad, x}}, api.ErrName, api.ErrName},
		{x, api.Substitution{Names: []string{"x", "x"}, With: []api.Expr{x, bad}}, api.ErrDouble, api.ErrDouble}, {x, api.Substitution{Names: []string{"x", "y"}, With: []api.Expr{x, bad}}, api.ErrName, api.ErrName}, {expr(t, "F(x)"), putOf(t, "F <- x + 1"), api.ErrArity, api.OK}, {expr(t, "F(x)"), putOf(t, "F <- TRUE"), api.ErrName, api.OK},
		{expr(t, "<<x, x, x, x, x, x, x, x, x>>"), putOf(t, "x <- <<1, 2, 3, 4, 5, 6, 7, 8, 9, 10, 11, 12, 13, 14, 15, 16, 17, 18>>"), api.ErrLarge, api.OK},
	} {
		if _, err := Substituted(c.e, c.s); err != c.err {
			t.Errorf("%d: %d", i, err)
		}
		if _, err := CapturesIn(c.e, c.s); err != c.other {
			t.Errorf("%d: captures %d", i, err)
		}
	}
}

func same(t *testing.T, what string, got api.Expr, err api.Errno, want string, wanted api.Errno) {
	t.Helper()
	if err != wanted {
		t.Errorf("%s: %d, want %d (%s)", what, err, wanted, text(got))
		return
	}
	if err == api.OK && want != "" {
		if alike, _ := tree.AreAlike(got, expr(t, want)); !alike {
			t.Errorf("%s: %s, want %s", what, text(got), want)
		}
	}
}

func TestExpanded(t *testing.T) {
	s := scope(t, "F(a) == a + x", "G == F(F(1))", "H(K/1) == K(1)", "!R(n) == R(n)", "U(a) == \\A u \\in a : u = x", "W(K/1, p) == \\E v \\in p : K(v)", "P(a) == H(a)", "M(K/1, q) == K(K(q))", "B1 == c", "Q(a) == {a}", "N(K/1) == D(K)", "Z(a) == {a}")
	for e, want := range map[string]string{
		"G": "1 + x + x", "H(LAMBDA u : u + x)": "1 + x", "H(F)": "1 + x", "U({u})": "?", `\A z \in U(y) : z`: `\A z \in \A b \in y : b = x : z`, "P(F)": "1 + x", "P(LAMBDA u : u)": "1", "M(LAMBDA u : <<u, u>>, 3)": "<<<<3, 3>>, <<3, 3>>>>", "M(LAMBDA u : 1, G)": "1", `\E u \in y : U(u)`: `\E u \in y : \A b \in u : b = x`,
		"D(F)": "D(F)", "D(B1)": "D(c)", "N(F)": "D(F)", "N(LAMBDA u : u)": "D(LAMBDA u : u)", "LET f == G IN f": "LET f == 1 + x + x IN f", "LET F(a) == 1 IN F(2)": "LET F(a) == 1 IN F(2)", "W(LAMBDA u : u = y, c)": `\E v \in c : v = y`, "F(x)'": "(x + x)'",
	} {
		if want == "?" {
			continue
		}
		got, err := Expanded(s, expr(t, e))
		same(t, e, got, err, want, api.OK)
		again, err := Expanded(s, got)
		same(t, "again "+e, again, err, text(got), api.OK)
	}
	for e, want := range map[string]api.Errno{"R(1)": api.ErrLoop, `\A x \in 1 : F(1)`: api.ErrCapture, "W(LAMBDA u : v, 1)": api.ErrMissing, `\E v \in 1 : W(LAMBDA u : v, 1)`: api.ErrCapture, "Q(F)": api.ErrArity, `\E p \in 1 : W(LAMBDA u : u, p)`: api.ErrCapture, `\E p \in 1 : W(LAMBDA u : p, 1)`: api.ErrCapture, "zz": api.ErrMissing, "F": api.ErrArity,
		"H(c + 1)": api.ErrArity, "H(LAMBDA u, v : u)": api.ErrArity, "Z(LAMBDA u : u)": api.ErrState, "G(1)": api.ErrArity, `\A a \in 1 : F(a)`: api.OK} {
		_, err := Expanded(s, expr(t, e))
		same(t, e, nil, err, "", want)
	}
	var l []api.Def
	l = append(l, def(t, "A0 == 1"))
	for i := 1; i < 40; i++ {
		l = append(l, def(t, "A"+strconv.Itoa(i)+" == A"+strconv.Itoa(i-1)+" + A"+strconv.Itoa(i-1)))
	}
	if _, err := Expanded(api.LevelScope{Defs: l}, exprs.Name("A39")); err != api.ErrLarge {
		t.Error(err)
	}
	if got, err := Expanded(api.LevelScope{Defs: l}, exprs.Name("A5")); len(got) != 63 || err != api.OK {
		t.Error(err)
	}
	if _, err := ExpandedBy(l, exprs.Name("A7")); err != api.ErrLarge {
		t.Error(err)
	}
	loop := []api.Def{def(t, "A == A")}
	if _, err := ExpandedBy(loop, exprs.Name("A")); err != api.ErrLarge {
		t.Error(err)
	}
	double := []api.Def{def(t, "A(K/1) == "+strings.Repeat("K(", 30)+"1"+strings.Repeat(")", 30))}
	if _, err := ExpandedBy(double, expr(t, "A(LAMBDA u : <<u, u>>)")); err != api.ErrLarge {
		t.Error(err)
	}
	if got, err := ExpandedBy(double, expr(t, "A(LAMBDA u : 5)")); text(got) != "5" || err != api.OK {
		t.Error(err)
	}
}

func TestExpandedBy(t *testing.T) {
	l := []api.Def{def(t, "F(a) == a + z"), def(t, "!R == 1")}
	got, err := ExpandedBy(l, expr(t, "F(w) + F + q(F) + F(1, 2)"))
	same(t, "by", got, err, "w + z + F + q(F) + F(1, 2)", api.OK)
	got, err = ExpandedBy(l, expr(t, "R"))
	same(t, "loop", got, err, "", api.ErrLoop)
	bad := func(change func(d *api.Def)) []api.Def {
		l := []api.Def{def(t, "F(a) == a"), def(t, "G(a) == a")}
		change(&l[1])
		return l
	}
	for i, c := range []struct {
		l   []api.Def
		err api.Errno
	}{{make([]api.Def, 41), api.ErrLarge}, {bad(func(d *api.Def) { d.Name = "IF" }), api.ErrName}, {bad(func(d *api.Def) { d.Params[0] = "1" }), api.ErrName}, {bad(func(d *api.Def) { d.Name = "F" }), api.ErrExists}, {bad(func(d *api.Def) { d.Params = []string{"a", "b", "e", "f", "g"} }), api.ErrLarge},
		{bad(func(d *api.Def) { d.Arities = nil }), api.ErrShape}, {bad(func(d *api.Def) { d.Arities[0] = -1 }), api.ErrRange}, {bad(func(d *api.Def) { d.Params, d.Arities = []string{"a", "a"}, []int{0, 0} }), api.ErrDouble}, {bad(func(d *api.Def) { d.Body = nil }), api.ErrEmpty}} {
		if _, err := ExpandedBy(c.l, exprs.Name("F")); err != c.err {
			t.Errorf("%d: %d", i, err)
		}
	}
	if _, err := ExpandedBy(nil, nil); err != api.ErrEmpty {
		t.Error(err)
	}
}

func TestPrimesMoved(t *testing.T) {
	s := scope(t, "F(a) == a + x")
	for e, want := range map[string]string{
		"(x + 1)'": "x' + 1", "UNCHANGED <<x, y>>": "<<x', y'>> = <<x, y>>", "UNCHANGED x": "x' = x", "[x' = 1]_x": `x' = 1 \/ x' = x`, "<<x' = 1>>_x": `x' = 1 /\ ~(x' = x)`, "[][x' = (y + 1)']_<<x, y>>": "[][x' = y' + 1]_<<x, y>>", "<><<x' = 1>>_x": "<><<x' = 1>>_x", "(c')'": "c", "x'": "x'", "(\\A x \\in y : x)'": `\A x \in y' : x`,
		`\A x \in y : x'`: `\A x \in y : x`, "ENABLED ((x + y)')": "ENABLED (x' + y')", "WF_x((x + 1)')": "WF_x(x' + 1)", "UNCHANGED (c + 1)": "c + 1 = c + 1", "ENABLED ([x' = 1]_x)": `ENABLED (x' = 1 \/ x' = x)`, "TRUE'": "TRUE", "(LET f == x IN f + y)'": "LET f == x' IN f + y'", "[][[x' = 1]_y]_x": `[][x' = 1 \/ y' = y]_x`,
	} {
		got, err := PrimesMoved(s, expr(t, e))
		same(t, e, got, err, want, api.OK)
		if again, err := PrimesMoved(s, got); err != api.OK || !exprs.Same(got, again) {
			t.Errorf("%s: again %d", e, err)
		}
	}
	for e, want := range map[string]api.Errno{"F(1)'": api.ErrState, "x''": api.ErrLevel, "(ENABLED x)'": api.ErrRefused, "UNCHANGED (ENABLED (x' = 1))": api.ErrRefused, "(LET f(a) == 1 IN f(x'))'": api.ErrRefused, "(LET f(a) == 1 IN f([]x))'": api.ErrLevel + 100, "zz'": api.ErrMissing, "[x]_(ENABLED y)": api.ErrRefused} {
		if want > 100 {
			want = api.ErrRefused
		}
		_, err := PrimesMoved(s, expr(t, e))
		same(t, e, nil, err, "", want)
	}
	big := "<<" + strings.Repeat("x, ", 29) + "x>>"
	if _, err := PrimesMoved(s, expr(t, "UNCHANGED <<"+big+",\n"+big+">>")); err != api.ErrLarge {
		t.Error(err)
	}
	if _, err := PrimesMoved(s, expr(t, "UNCHANGED <<"+big+",\n"+big+">> /\\ (ENABLED x)'")); err != api.ErrRefused {
		t.Error(err)
	}
}

func TestWithoutEnabled(t *testing.T) {
	s := scope(t, "Inc == x' = x + 1", "Can == ENABLED Inc", "!R == 1")
	for e, want := range map[string]string{
		"Can": `\E b_1 : b_1 = x + 1`, "ENABLED (x' = y')": `\E b_1, b_2 : b_1 = b_2`, "ENABLED (x > 1)": "x > 1", "ENABLED [Inc]_<<x, y>>": `\E p, q : p = x + 1 \/ <<p, q>> = <<x, y>>`, "ENABLED (y' = 1)": `\E p : p = 1`, "ENABLED (y' = 1 /\\ x' = 2)": `\E p, q : q = 1 /\ p = 2`,
		"ENABLED (x' = 1 /\\ ENABLED (x' = y))": `\E p : p = 1 /\ \E q : q = y`, `\A b_1 \in x : ENABLED (x' = b_1)`: `\A b_1 \in x : \E q : q = b_1`, "(ENABLED (x' = y))'": `\E p : p = y'`, "[Can]_x": `(\E p : p = x + 1) \/ x' = x`, `ENABLED (\A x \in y : x')`: `\A x \in y : x`,
	} {
		got, err := WithoutEnabled(s, expr(t, e))
		same(t, e, got, err, want, api.OK)
	}
	for e, want := range map[string]api.Errno{"R": api.ErrLoop, "Inc''": api.ErrLevel, `ENABLED (x' \cdot y')`: api.ErrRefused, "ENABLED (UNCHANGED (LET f(a) == 1 IN f(x')))": api.ErrRefused, "zz": api.ErrMissing} {
		_, err := WithoutEnabled(s, expr(t, e))
		same(t, e, nil, err, text(expr(t, e)), want)
	}
	six := api.LevelScope{Vars: []string{"u1", "u2", "u3", "u4", "u5", "u6"}}
	got, err := WithoutEnabled(six, expr(t, "ENABLED (<<u6', u1', u2', u3', u4', u5'>> = 1)"))
	same(t, "six", got, err, `\E b_1, b_2, b_3, b_4 : \E b_5, b_6 : <<b_6, b_1, b_2, b_3, b_4, b_5>> = 1`, api.OK)
}

func TestInstanceOf(t *testing.T) {
	n := api.LevelScope{Constants: []string{"k"}, Vars: []string{"x"}, Defs: []api.Def{def(t, "Inc == x' = x + k"), def(t, "Can == ENABLED Inc"), def(t, "?All(b, G/1) == \\A u \\in b : G(u) = x + k"), def(t, "!Rec(p) == IF p = 0 THEN 0 ELSE Rec(p - 1)"), def(t, "En(p) == \\E w \\in p : ENABLED (x' = w /\\ x' = p)")}}
	m := api.LevelScope{Constants: []string{"c"}, Vars: []string{"a", "b"}, Defs: []api.Def{def(t, "S == a + b")}}
	show := func(l []api.Def) string {
		var out []string
		for _, d := range l {
			s := d.Name + "(" + strings.Join(d.Params, ",") + ")"
			if d.Local {
				s = "?" + s
			}
			if d.Recursive {
				s = "!" + s
			}
			out = append(out, s+" == "+text(d.Body))
		}
		return strings.Join(out, "; ")
	}
	for put, want := range map[string]string{
		"x <- a + b; k <- c": `I_Inc() == (a + b)' = a + b + c; I_Can() == \E b_1 : b_1 = a + b + c; ?I_All(b_1,G) == \A u \in b_1 : G(u) = a + b + c; !I_Rec(p) == IF p = 0 THEN 0 ELSE I_Rec(p - 1); I_En(p) == \E w \in p : \E b_1 : b_1 = w /\ b_1 = p`,
		"x <- a; k <- 1":     `I_Inc() == a' = a + 1; I_Can() == ENABLED I_Inc; ?I_All(b,G) == \A u \in b : G(u) = a + 1; !I_Rec(p) == IF p = 0 THEN 0 ELSE I_Rec(p - 1); I_En(p) == \E w \in p : ENABLED (a' = w /\ a' = p)`,
	} {
		l, err := InstanceOf(n, m, putOf(t, put), "I_")
		if show(l) != want || err != api.OK {
			t.Errorf("%s: %s %d", put, show(l), err)
		}
	}
	with := func(d string) api.LevelScope {
		out := n
		out.Defs = append(slices.Clone(n.Defs[:1]), def(t, d))
		return out
	}
	for i, c := range []struct {
		n           api.LevelScope
		put, prefix string
		err         api.Errno
	}{
		{n, "x <- a; k <- 1", "1", api.ErrName}, {n, "x <- a; k <- 1; z <- 1", "I_", api.ErrMissing}, {n, "x <- a", "I_", api.ErrUnassigned}, {n, "x <- a'; k <- 1", "I_", api.ErrLevel}, {n, "x <- a; k <- b", "I_", api.ErrLevel}, {n, "x <- a''; k <- 1", "I_", api.ErrLevel}, {n, "x <- zz; k <- 1", "I_", api.ErrMissing},
		{api.LevelScope{Vars: []string{"1"}}, "x <- a; k <- 1", "I_", api.ErrName}, {with("B == \\A x \\in 1 : x"), "x <- a; k <- 1", "I_", api.ErrCapture}, {with("B == \\A B \\in 1 : B"), "x <- a; k <- 1", "I_", api.ErrCapture}, {with("B22 == 1"), "x <- a; k <- 1", "I_aaaaaaaaaaaaaaaaaaaa", api.ErrName}, {with("B2 == 1"), "x <- a; k <- 1", "I_aaaaaaaaaaaaaaaaaaa", api.OK},
		{with("S == 1"), "x <- a; k <- 1", "I_", api.OK}, {with("B == ENABLED (x' \\cdot x')"), "x <- 1; k <- 1", "I_", api.ErrRefused}, {with("B == ENABLED (x' \\cdot x')"), "x <- a; k <- 1", "I_", api.OK}, {with("!B == ENABLED (B)"), "x <- 1; k <- 1", "I_", api.ErrLoop}, {with("B == ENABLED (x' = 1 /\\ x'' = 2)"), "x <- 1; k <- 1", "I_", api.ErrRefused},
		{with("B == " + strings.Repeat("x + ", 20) + "x"), "x <- " + strings.Repeat("a + ", 20) + "a; k <- 1", "I_", api.ErrLarge}, {with("B == k(1)"), "x <- a; k <- 1", "I_", api.ErrArity}, {with("B == k(1)"), "x <- a; k <- c", "I_", api.OK}, {n, "x <- a; x <- 1; k <- 1", "I_", api.ErrDouble},
	} {
		if _, err := InstanceOf(c.n, m, putOf(t, c.put), c.prefix); err != c.err {
			t.Errorf("%d: %d", i, err)
		}
	}
	m.Defs[0].Name = "I_Inc"
	if _, err := InstanceOf(n, m, putOf(t, "x <- a; k <- 1"), "I_"); err != api.ErrExists {
		t.Error(err)
	}
	l, err := InstanceOf(n, m, putOf(t, "x <- a; k <- 1"), "J_")
	if err != api.OK {
		t.Fatal(err)
	}
	before, _ := level.DefLevels(n)
	after, err := level.DefLevels(api.LevelScope{Constants: m.Constants, Vars: m.Vars[:1], Defs: l})
	for i := range before {
		if err != api.OK || before[i].Level != after[i].Level {
			t.Errorf("%d: %v %v %d", i, before[i], after[i], err)
		}
	}
}
