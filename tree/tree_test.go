package tree

import (
	"slices"
	"strings"
	"testing"

	"stutter/api"
	"stutter/exprs"
)

func name(s string) api.Expr { return exprs.Name(s) }

func op(s string, l ...api.Expr) api.Expr { return exprs.Apply(s, l...) }

func number(n int) api.Expr { return api.Expr{{Kind: api.ExprNumber, N: n}} }

func node(kind int, names string, l ...api.Expr) api.Expr {
	return exprs.Make(api.Node{Kind: kind, Names: strings.Fields(names)}, l...)
}

func let(recursive int, names string, l ...api.Expr) api.Expr {
	return exprs.Make(api.Node{Kind: api.ExprLet, N: recursive, Names: strings.Fields(names)}, l...)
}

func TestOperators(t *testing.T) {
	l := Operators()
	if !slices.IsSorted(l) || len(l) != 42 || len(slices.Compact(slices.Clone(l))) != 42 {
		t.Errorf("%d %q", len(l), l)
	}
	for text, want := range map[string]api.Operator{
		"-.":   {Text: "-.", Fix: api.FixPrefix, Low: 12, High: 12, Least: 1, Most: 1},
		`\X`:   {Text: `\X`, Fix: api.FixInfix, Low: 10, High: 13, Least: 2, Most: 4},
		"'":    {Text: "'", Fix: api.FixPostfix, Low: 15, High: 15, Least: 1, Most: 1},
		`/\`:   {Text: `/\`, Fix: api.FixInfix, Low: 3, High: 3, Left: true, Least: 2, Most: 2},
		"%":    {Text: "%", Fix: api.FixInfix, Low: 10, High: 11, Least: 2, Most: 2},
		"[]":   {Text: "[]", Fix: api.FixPrefix, Low: 4, High: 15, Least: 1, Most: 1},
		`\div`: {Text: `\div`, Fix: api.FixInfix, Low: 13, High: 13, Least: 2, Most: 2},
	} {
		if o, e := OperatorOf(text); o != want || e != api.OK {
			t.Errorf("%s: %v %d", text, o, e)
		}
	}
	for _, text := range []string{"", "x", `\land`, "==", "SUBSETS"} {
		if o, e := OperatorOf(text); e != api.ErrMissing || o != (api.Operator{}) {
			t.Errorf("%s: %d", text, e)
		}
	}
}

func TestCheckExpr(t *testing.T) {
	x := api.Node{Kind: api.ExprName, Text: "x"}
	old := api.Node{Kind: api.ExprOld}
	many := make(api.Expr, 161)
	wide := api.Expr{}
	for range 31 {
		wide = append(wide, x)
	}
	wide = append(wide, api.Node{Kind: api.ExprTuple})
	for i := range 31 {
		wide[31].Args = append(wide[31].Args, i)
	}
	for i, c := range []struct {
		e  api.Expr
		at int
		er api.Errno
	}{
		{nil, 0, api.ErrEmpty}, {many, 0, api.ErrLarge}, {many[:160], 159, api.ErrOpen}, {number(0), 0, api.OK}, {number(10000), 0, api.OK},
		{number(10001), 0, api.ErrRange}, {number(-1), 0, api.ErrRange},
		{api.Expr{x, {Kind: api.ExprKinds}}, 1, api.ErrKind}, {api.Expr{x, {Kind: -1}}, 1, api.ErrKind}, {wide, 31, api.ErrShape},
		{api.Expr{x, {Kind: api.ExprApply, Text: "F"}}, 1, api.ErrShape}, {api.Expr{x, {Kind: api.ExprApply, Text: "A!F"}}, 1, api.ErrShape},
		{api.Expr{x, {Kind: api.ExprApply, Text: "+"}}, 1, api.ErrArity}, {api.Expr{x, {Kind: api.ExprApply, Text: "+", Args: []int{0}}}, 1, api.ErrArity},
		{api.Expr{x, {Kind: api.ExprApply, Text: "+", Args: []int{0, 0}}}, 1, api.ErrForm}, {api.Expr{x, {Kind: api.ExprApply, Text: "1", Args: []int{0}}}, 1, api.ErrName},
		{api.Expr{x, {Kind: api.ExprApply, Text: "F", Names: []string{"a"}, Args: []int{0}}}, 1, api.ErrShape},
		{api.Expr{x, x, {Kind: api.ExprApply, Text: "~", Args: []int{0}}}, 2, api.ErrForm}, {api.Expr{x, x, {Kind: api.ExprApply, Text: "~", Args: []int{1}}}, 2, api.ErrOpen},
		{api.Expr{x, {Kind: api.ExprApply, Text: "~", Args: []int{1}}}, 1, api.ErrForm}, {api.Expr{x, {Kind: api.ExprApply, Text: "~", Args: []int{-1}}}, 1, api.ErrForm},
		{api.Expr{x, x, {Kind: api.ExprApply, Text: "+", Args: []int{1, 0}}}, 2, api.ErrForm},
		{api.Expr{{Kind: api.ExprName, Text: "x", N: 1}}, 0, api.ErrForm}, {api.Expr{{Kind: api.ExprNumber, Text: "x"}}, 0, api.ErrForm}, {api.Expr{{Kind: api.ExprNumber, Names: []string{"x"}}}, 0, api.ErrShape},
		{api.Expr{{Kind: api.ExprString, Text: `a\b`}}, 0, api.ErrForm}, {api.Expr{{Kind: api.ExprString, Text: strings.Repeat("a", 41)}}, 0, api.ErrForm}, {api.Expr{{Kind: api.ExprString, Text: strings.Repeat(" ", 40)}}, 0, api.OK},
		{let(2, "f", name("x"), name("f")), 2, api.ErrForm}, {let(1, "f a f", name("x"), name("f")), 2, api.ErrDouble}, {let(0, "f a b c d", name("x"), name("f")), 0, api.OK}, {let(0, "f a b c d e", name("x"), name("f")), 2, api.ErrShape},
		{name("IF"), 0, api.ErrName}, {name("TRUE"), 0, api.OK}, {name("STRING"), 0, api.OK}, {name("A!B"), 0, api.OK}, {name("A!B!C"), 0, api.ErrName}, {name("A!TRUE"), 0, api.ErrName}, {name("12"), 0, api.ErrName}, {name("_1a"), 0, api.OK},
		{name("WF_x"), 0, api.ErrName}, {name(strings.Repeat("a", 25)), 0, api.ErrName}, {name(""), 0, api.ErrName}, {op("TRUE", name("x")), 1, api.ErrName}, {op(`\X`, name("a"), name("b"), name("c"), name("d")), 0, api.OK},
		{op(`\X`, name("a"), name("b"), name("c"), name("d"), name("d")), 5, api.ErrArity}, {node(api.ExprAll, "TRUE", name("S"), name("p")), 2, api.ErrName}, {node(api.ExprRecord, "a a", name("S"), name("p")), 2, api.ErrDouble},
		{node(api.ExprAll, "a b c d", name("S"), name("S"), name("S"), name("S"), name("p")), 0, api.OK}, {node(api.ExprAny, "a b c d e", name("p")), 1, api.ErrShape}, {node(api.ExprCase, "", name("p")), 1, api.ErrShape},
		{api.Expr{x, {Kind: api.ExprField, Text: "TRUE", Args: []int{0}}}, 1, api.ErrName}, {api.Expr{x, {Kind: api.ExprField, Text: "a", Args: []int{0}}}, 0, api.OK},
		{api.Expr{old}, 0, api.ErrState}, {node(api.ExprExcept, "", name("f"), name("i"), op("+", api.Expr{old}, number(1))), 0, api.OK}, {node(api.ExprExcept, "", name("f"), api.Expr{old}, number(1)), 1, api.ErrState},
		{op("F", node(api.ExprLambda, "a", name("a"))), 0, api.OK}, {op("~", node(api.ExprLambda, "a", name("a"))), 1, api.ErrState}, {node(api.ExprLambda, "a", name("a")), 1, api.ErrState},
		{api.Expr{old, {Kind: api.ExprKinds}}, 1, api.ErrKind}, {api.Expr{x, old}, 1, api.ErrState},
	} {
		if at, er := CheckExpr(c.e); at != c.at || er != c.er {
			t.Errorf("%d %v: %d %d", i, c.e, at, er)
		}
		if c.er != api.OK {
			if _, er := FormatExpr(c.e); er != c.er {
				t.Errorf("%d: format %d", i, er)
			}
			if _, er := FreeIn(c.e); er != c.er {
				t.Errorf("%d: free %d", i, er)
			}
			if _, er := BoundAt(c.e, 0); er != c.er {
				t.Errorf("%d: bound %d", i, er)
			}
			if _, er := Canonical(c.e); er != c.er {
				t.Errorf("%d: canonical %d", i, er)
			}
			if _, er := Renamed(c.e, "", ""); er != c.er {
				t.Errorf("%d: renamed %d", i, er)
			}
		}
	}
}

func TestFormatExpr(t *testing.T) {
	a, b, c, s, p, q := name("a"), name("b"), name("c"), name("S"), name("p"), name("q")
	all := node(api.ExprAll, "x", s, p)
	field := func(e api.Expr) api.Expr { return exprs.Make(api.Node{Kind: api.ExprField, Text: "f"}, e) }
	for _, x := range []struct {
		e    api.Expr
		want string
	}{
		{op("+", a, op("*", b, c)), "a + b * c"}, {op("*", op("+", a, b), c), "(a + b) * c"}, {op("~", op("=", a, b)), "~a = b"}, {op("=", op("~", a), b), "(~a) = b"},
		{op("-", op("-", a, b), c), "a - b - c"}, {op("-", a, op("-", b, c)), "a - (b - c)"}, {op(`\/`, op(`/\`, a, b), c), `(a /\ b) \/ c`}, {op(`\div`, op(`\div`, a, b), c), `(a \div b) \div c`},
		{op("UNCHANGED", op("'", a)), "UNCHANGED (a')"}, {op("[]", op("'", a)), "[](a')"}, {op("-.", op("~", a)), "-(~a)"}, {op("[]", op("<>", p)), "[]<>p"}, {op("~", op("-.", a)), "~-a"}, {op("-.", op("-.", a)), "-(-a)"},
		{op("SUBSET", op("UNION", a)), "SUBSET UNION a"}, {op("DOMAIN", op("SUBSET", a)), "DOMAIN (SUBSET a)"}, {op("-", a, op("-.", b)), "a - -b"}, {op("*", op("-.", a), b), "(-a) * b"}, {op("-.", op("*", a, b)), "-a * b"},
		{op("'", op("'", a)), "a''"}, {op("'", op("+", a, b)), "(a + b)'"}, {op("'", op("F", a)), "F(a)'"}, {op("'", number(3)), "3'"},
		{op(`/\`, all, q), `(\A x \in S : p) /\ q`}, {op(`/\`, q, all), `q /\ \A x \in S : p`}, {op(`/\`, op("~", all), q), `~(\A x \in S : p) /\ q`}, {op("=>", op(`/\`, q, all), p), `q /\ (\A x \in S : p) => p`},
		{op("'", all), `(\A x \in S : p)'`}, {op(`\X`, a, b, c), `a \X b \X c`}, {op(`\X`, op(`\X`, a, b), c), `(a \X b) \X c`}, {op("..", number(1), number(2)), "1 .. 2"}, {op("A!F", a, b), "A!F(a, b)"},
		{node(api.ExprTuple, ""), "<<>>"}, {node(api.ExprSet, "", a, b), "{a, b}"}, {node(api.ExprFilter, "x", s, p), `{x \in S : p}`}, {node(api.ExprMap, "x y", s, s, a), `{a : x \in S, y \in S}`},
		{node(api.ExprMap, "x", s, op(`\in`, a, b)), `{(a \in b) : x \in S}`}, {node(api.ExprMap, "x", s, op(`\in`, name("STRING"), b)), `{(STRING \in b) : x \in S}`}, {node(api.ExprMap, "x", s, op(`\in`, name("TRUE"), b)), `{TRUE \in b : x \in S}`},
		{node(api.ExprMap, "x", s, op(`\in`, name("A!b"), b)), `{A!b \in b : x \in S}`}, {node(api.ExprMap, "x", s, op(`\in`, op("'", a), b)), `{a' \in b : x \in S}`}, {node(api.ExprMap, "x", s, op("=", op(`\in`, a, b), c)), `{(a \in b) = c : x \in S}`},
		{node(api.ExprMap, "x", s, op(`/\`, op(`\in`, a, b), c)), `{(a \in b /\ c) : x \in S}`},
		{node(api.ExprSome, "x y", s, s, p), `\E x \in S, y \in S : p`}, {node(api.ExprAny, "x y", p), `\A x, y : p`}, {node(api.ExprExists, "x", p), `\E x : p`}, {node(api.ExprChoose, "x", s, p), `CHOOSE x \in S : p`},
		{node(api.ExprFunc, "x y", s, s, p), `[x \in S, y \in S |-> p]`}, {node(api.ExprCall, "", a, b, c), "a[b, c]"}, {node(api.ExprCall, "", op("+", a, b), c), "(a + b)[c]"}, {node(api.ExprCall, "", number(1), c), "(1)[c]"}, {node(api.ExprCall, "", all, c), `(\A x \in S : p)[c]`},
		{field(a), "a.f"}, {field(number(1)), "(1).f"}, {field(op("'", a)), "(a').f"}, {field(all), `(\A x \in S : p).f`}, {node(api.ExprFuncs, "", a, b), "[a -> b]"}, {node(api.ExprRecord, "a b", a, b), "[a |-> a, b |-> b]"}, {node(api.ExprRecords, "a b", a, b), "[a : a, b : b]"},
		{node(api.ExprExcept, "", a, b, op("+", api.Expr{{Kind: api.ExprOld}}, c)), "[a EXCEPT ![b] = @ + c]"}, {node(api.ExprIf, "", p, a, b), "IF p THEN a ELSE b"}, {op("+", node(api.ExprIf, "", p, a, b), c), "(IF p THEN a ELSE b) + c"},
		{node(api.ExprCase, "", p, a, q, b, c), "CASE p -> a [] q -> b [] OTHER -> c"}, {node(api.ExprCase, "", p, all, q, all), `CASE p -> (\A x \in S : p) [] q -> \A x \in S : p`}, {node(api.ExprCase, "", p, op("=", a, all), c), `CASE p -> a = (\A x \in S : p) [] OTHER -> c`},
		{let(0, "f x y", a, b), "LET f(x, y) == a IN b"}, {let(0, "f", a, b), "LET f == a IN b"}, {let(1, "f x y", a, b), "LET RECURSIVE f(_, _) f(x, y) == a IN b"}, {let(1, "f", a, b), "LET RECURSIVE f f == a IN b"},
		{op("F", node(api.ExprLambda, "x y", a)), "F(LAMBDA x, y : a)"}, {node(api.ExprBox, "", a, b), "[a]_b"}, {node(api.ExprAngle, "", a, node(api.ExprTuple, "", b)), "<<a>>_<<b>>"}, {node(api.ExprWeak, "", a, op("'", b)), "WF_(b')(a)"},
		{node(api.ExprStrong, "", a, name("TRUE")), "SF_(TRUE)(a)"}, {node(api.ExprBox, "", a, name("A!b")), "[a]_(A!b)"}, {node(api.ExprBox, "", all, op("F", b)), `[\A x \in S : p]_(F(b))`}, {api.Expr{{Kind: api.ExprString, Text: "a b"}}, `"a b"`},
		{op("%", op("+", a, b), c), "(a + b) % c"}, {op(`\cdot`, op("+", a, b), op("'", c)), `(a + b) \cdot c'`}, {op("~", op("[]", a)), "~[]a"}, {op("[]", op("~", a)), "[]~a"}, {op("ENABLED", op("-.", a)), "ENABLED -a"}, {op("[]", op("+", a, b)), "[](a + b)"},
	} {
		if s, er := FormatExpr(x.e); s != x.want || er != api.OK {
			t.Errorf("%q, want %q: %d", s, x.want, er)
		}
	}
	long := strings.Repeat("a", 24)
	big := node(api.ExprTuple, "")
	for len(big) < 130 {
		big = node(api.ExprAny, long[1:]+"1 "+long[1:]+"2 "+long[1:]+"3 "+long[1:]+"4", big)
	}
	if s, er := FormatExpr(big); er != api.OK || len(s) < 129*100 {
		t.Errorf("%d %d", len(s), er)
	}
}

func TestNames(t *testing.T) {
	x, s := name("x"), name("S")
	for _, c := range []struct {
		e    api.Expr
		want string
	}{
		{op("+", name("a"), op("*", name("b"), name("a"))), "a b"}, {node(api.ExprFilter, "x", s, op("#", x, name("y"))), "S y"}, {node(api.ExprFilter, "x", x, x), "x"},
		{op("F", name("TRUE"), name("A!x"), op("A!G", name("BOOLEAN"))), "A!G A!x F"}, {let(0, "f a", op("f", name("a")), op("f", name("a"))), "a f"}, {let(1, "f a", op("f", name("a")), op("f", name("a"))), "a"},
		{node(api.ExprRecord, "a", name("b")), "b"}, {op("P", node(api.ExprLambda, "P", op("P", name("c")))), "P c"}, {node(api.ExprMap, "x y", x, x, op("+", x, name("y"))), "x"}, {node(api.ExprAny, "x", op("x", name("z"))), "z"},
		{node(api.ExprChoose, "x", x, x), "x"}, {exprs.Make(api.Node{Kind: api.ExprField, Text: "a"}, name("b")), "b"},
	} {
		l, er := FreeIn(c.e)
		if strings.Join(l, " ") != c.want || er != api.OK {
			t.Errorf("%v: %v %d", c.e, l, er)
		}
	}
	e := node(api.ExprSome, "x y", s, name("T"), let(1, "f x", op("f", x), node(api.ExprAny, "x", x)))
	for i, want := range map[int]string{0: "", 1: "", 2: "x y f x", 3: "x y f x", 4: "x y f x", 5: "x y f", 6: "x y", 7: ""} {
		if l, _ := BoundAt(e, i); strings.Join(l, " ") != want {
			t.Errorf("%d: %v", i, l)
		}
	}
	for _, at := range []int{-1, 8} {
		if _, er := BoundAt(e, at); er != api.ErrMissing {
			t.Errorf("%d: %d", at, er)
		}
	}
	if l, _ := BoundAt(let(0, "f x", x, x), 0); strings.Join(l, " ") != "x" {
		t.Errorf("%v", l)
	}
}

func TestAlike(t *testing.T) {
	s := name("S")
	a := node(api.ExprAll, "x", s, node(api.ExprSome, "y", name("x"), op("P", name("x"), name("y"))))
	b := node(api.ExprAll, "u", s, node(api.ExprSome, "x", name("u"), op("P", name("u"), name("x"))))
	c := node(api.ExprAll, "u", s, node(api.ExprSome, "x", name("u"), op("P", name("x"), name("u"))))
	d := node(api.ExprAll, "b_2", s, op("P", name("b_1"), name("b_2"), let(1, "f g", op("f", name("g")), name("f"))))
	for _, x := range []struct {
		a, b api.Expr
		want bool
	}{{a, b, true}, {a, c, false}, {a, s, false}, {d, d, true}, {name("x"), name("y"), false}, {node(api.ExprAny, "x y", op("+", name("x"), name("y"))), node(api.ExprAny, "y x", op("+", name("y"), name("x"))), true},
		{node(api.ExprAny, "x y", op("+", name("x"), name("y"))), node(api.ExprAny, "x y", op("+", name("y"), name("x"))), false}, {node(api.ExprRecord, "a", s), node(api.ExprRecord, "b", s), false},
		{node(api.ExprAny, "x", name("y")), node(api.ExprAny, "y", name("y")), false}} {
		if got, er := AreAlike(x.a, x.b); got != x.want || er != api.OK {
			t.Errorf("%v %v: %v %d", x.a, x.b, got, er)
		}
		if got, _ := AreAlike(x.b, x.a); got != x.want {
			t.Errorf("%v %v: %v", x.b, x.a, got)
		}
		f, er := Canonical(x.a)
		if alike, _ := AreAlike(f, x.a); !alike || er != api.OK {
			t.Errorf("%v: %v", x.a, f)
		}
		l, _ := FreeIn(x.a)
		m, _ := FreeIn(f)
		if !slices.Equal(l, m) {
			t.Errorf("%v: free %v", x.a, m)
		}
	}
	for _, x := range []struct {
		e    api.Expr
		want string
	}{{b, `\A b_1 \in S : \E b_2 \in b_1 : P(b_1, b_2)`}, {d, `\A b_2 \in S : P(b_1, b_2, LET RECURSIVE b_3(_) b_3(b_4) == b_3(b_4) IN b_3)`},
		{op("+", node(api.ExprAny, "x", name("x")), node(api.ExprFunc, "y", name("y"), name("y"))), `(\A b_1 : b_1) + [b_2 \in y |-> b_2]`},
		{let(0, "f a", node(api.ExprAny, "z", op("+", name("f"), name("a"))), op("f", name("a"))), `LET b_1(b_2) == \A b_3 : f + b_2 IN b_1(a)`}} {
		f, _ := Canonical(x.e)
		if got, er := FormatExpr(f); got != x.want || er != api.OK {
			t.Errorf("%q, want %q", got, x.want)
		}
	}
	if _, er := AreAlike(nil, name("1")); er != api.ErrEmpty {
		t.Error(er)
	}
	if _, er := AreAlike(a, name("1")); er != api.ErrName {
		t.Error(er)
	}
}

func TestRenamed(t *testing.T) {
	s := name("S")
	a := node(api.ExprAll, "x", s, node(api.ExprSome, "y", name("x"), op("P", name("x"), name("y"))))
	for _, c := range []struct {
		from, to string
		want     string
		er       api.Errno
	}{{"S", "x", `\A x \in x : \E y \in x : P(x, y)`, api.OK}, {"P", "Q", `\A x \in S : \E y \in x : Q(x, y)`, api.OK}, {"P", "y", "", api.ErrCapture}, {"P", "x", "", api.ErrCapture}, {"x", "z", `\A x \in S : \E y \in x : P(x, y)`, api.OK},
		{"P", "P", `\A x \in S : \E y \in x : P(x, y)`, api.OK}, {"P", "TRUE", "", api.ErrName}, {"1", "P", "", api.ErrName}, {"P", "A!B", "", api.ErrName}, {"P", "S", `\A x \in S : \E y \in x : S(x, y)`, api.OK}} {
		r, er := Renamed(a, c.from, c.to)
		if er != c.er {
			t.Errorf("%v: %d", c, er)
		}
		if got, _ := FormatExpr(r); got != c.want {
			t.Errorf("%v: %q", c, got)
		}
	}
	r, _ := Renamed(a, "P", "n")
	if back, er := Renamed(r, "n", "P"); !exprs.Same(a, back) || er != api.OK {
		t.Errorf("%v", back)
	}
}

func TestReplaced(t *testing.T) {
	a := op("+", name("x"), op("F", node(api.ExprLambda, "y", name("y")), name("z")))
	for _, c := range []struct {
		at   int
		by   api.Expr
		want string
		er   api.Errno
	}{{0, op("*", name("u"), number(1)), "u * 1 + F(LAMBDA y : y, z)", api.OK}, {5, name("w"), "w", api.OK}, {1, op("-.", name("y")), "x + F(LAMBDA y : -y, z)", api.OK}, {2, name("G"), "x + F(G, z)", api.OK},
		{6, name("w"), "", api.ErrMissing}, {-1, nil, "", api.ErrMissing}, {0, nil, "", api.ErrEmpty}, {0, api.Expr{{Kind: api.ExprOld}}, "", api.ErrState}} {
		r, er := Replaced(a, c.at, c.by)
		if got, _ := FormatExpr(r); got != c.want || er != c.er {
			t.Errorf("%v: %q %d", c, got, er)
		}
	}
	if _, er := Replaced(nil, 0, nil); er != api.ErrEmpty {
		t.Error(er)
	}
	wide := node(api.ExprTuple, "", slices.Repeat([]api.Expr{name("x")}, 30)...)
	big := node(api.ExprTuple, "", wide, wide, wide, wide, wide, name("x"))
	if _, er := Replaced(big, len(big)-2, wide); er != api.ErrLarge {
		t.Error(er)
	}
	except := node(api.ExprExcept, "", name("f"), name("i"), op("-.", api.Expr{{Kind: api.ExprOld}}))
	if _, er := Replaced(op("~", except), 4, number(1)); er != api.OK {
		t.Error(er)
	}
	r, _ := Replaced(a, 0, a)
	r[0].Text = "changed"
	if a[0].Text != "x" {
		t.Error("memory is shared")
	}
}

// TestNestedTexts writes expressions that are as deep as they may be; an operand that is written more than once at each of them would never come to an end.
func TestNestedTexts(t *testing.T) {
	p := exprs.Name("p")
	of := func(kind int, names []string, l ...api.Expr) api.Expr {
		return exprs.Make(api.Node{Kind: kind, Names: names}, l...)
	}
	x := []string{"x"}
	for _, c := range []struct {
		wrap        func(e api.Expr) api.Expr
		before, end string
	}{
		{func(e api.Expr) api.Expr { return of(api.ExprCase, nil, p, e) }, "CASE p -> ", ""}, {func(e api.Expr) api.Expr { return of(api.ExprCase, nil, p, e, p, p) }, "CASE p -> (", ") [] p -> p"}, {func(e api.Expr) api.Expr { return of(api.ExprCase, nil, p, p, e) }, "CASE p -> p [] OTHER -> ", ""}, {func(e api.Expr) api.Expr { return of(api.ExprCase, nil, e, p) }, "CASE ", " -> p"},
		{func(e api.Expr) api.Expr { return of(api.ExprIf, nil, p, e, p) }, "IF p THEN ", " ELSE p"}, {func(e api.Expr) api.Expr { return of(api.ExprLet, x, p, e) }, "LET x == p IN ", ""}, {func(e api.Expr) api.Expr { return of(api.ExprMap, x, p, e) }, "{", " : x \\in p}"}, {func(e api.Expr) api.Expr { return of(api.ExprExcept, nil, p, e, p) }, "[p EXCEPT ![", "] = p]"}, {func(e api.Expr) api.Expr { return exprs.Apply("/\\", p, e) }, "p /\\ (", ")"}, {func(e api.Expr) api.Expr { return of(api.ExprAny, x, e) }, "\\A x : ", ""},
	} {
		e, times := p, 0
		for {
			next := c.wrap(e)
			if len(next) > api.MaxNodes {
				break
			}
			e, times = next, times+1
		}
		want := strings.Repeat(c.before, times) + "p" + strings.Repeat(c.end, times)
		if c.before == "CASE p -> (" || c.before == "p /\\ (" { // the innermost one is no operand of the kind that has parentheses
			want = strings.Replace(want, "(p)", "p", 1)
		}
		if s, err := FormatExpr(e); s != want || err != api.OK {
			t.Errorf("%s: %q %d", c.before, s, err)
		}
	}
}
