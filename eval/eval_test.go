package eval

import (
	"strconv"
	"strings"
	"testing"

	"stutter/api"
	"stutter/exprs"
	"stutter/lazy"
	"stutter/parse"
	"stutter/tree"
	"stutter/value"
	"stutter/values"
)

func expr(t *testing.T, s string) api.Expr {
	t.Helper()
	e, p, err := parse.ParseExpr(strings.Split(s, "\n"))
	if err != api.OK {
		t.Fatalf("%s: %v %d", s, p, err)
	}
	return e
}

func read(t *testing.T, s string) api.Value {
	t.Helper()
	v, at, err := value.ParseValue(s)
	if err != api.OK {
		t.Fatalf("%s: %d %d", s, at, err)
	}
	return v
}

func def(t *testing.T, s string) api.Def {
	t.Helper()
	head, body, _ := strings.Cut(s, " == ")
	d := api.Def{Body: expr(t, body)}
	name, params, _ := strings.Cut(strings.Trim(head, ")"), "(")
	d.Name = name
	if params != "" {
		for _, p := range strings.Split(params, ", ") {
			p, arity, _ := strings.Cut(p, "/")
			n, _ := strconv.Atoi(arity)
			d.Params, d.Arities = append(d.Params, p), append(d.Arities, n)
		}
	}
	return d
}

func context(t *testing.T) api.Context {
	c := api.Context{Values: []api.Binding{{Name: "m", Value: values.Model("m")}, {Name: "n", Value: values.Model("n")}, {Name: "two", Value: values.Int(2)}, {Name: "f", Value: read(t, "(1 :> 5 @@ 3 :> 6)")}, {Name: "r", Value: read(t, "[a |-> 1, b |-> <<2>>]")}}}
	for _, d := range []string{"F(a, b) == IF a = 0 THEN 0 ELSE b", "G(H/1, x) == H(H(x))", "Inc(x) == x + 1", "Fact(n1) == IF n1 = 0 THEN 1 ELSE n1 * Fact(n1 - 1)", "Loop(x) == Loop(x)", "Deep(x) == IF x = 0 THEN 0 ELSE Deep(x - 1)", "Bad == 1 \\div 0", "K == 5", "S == 1 .. 3", "W(x) == two + x", "P(Q/2) == Q(1, 2)"} {
		c.Defs = append(c.Defs, def(t, d))
	}
	return c
}

func TestValueOf(t *testing.T) {
	c := context(t)
	for s, want := range map[string]string{
		"2 + 3 * 4": "14", "-7 \\div 2": "-3", "(-7) \\div 2": "-4", "(-7) % 2": "1", "2 ^ 10": "1024", "2 ^ 0": "1", "(-1) ^ 10000": "1", "0 ^ 5": "0", "3 .. 1": "{}", "1 .. 3": "{1, 2, 3}", "3 < 4": "TRUE", "4 <= 3": "FALSE", "4 > 3": "TRUE", "3 >= 4": "FALSE", "3 - 5": "-2", "5 \\in Nat": "TRUE", "{1} \\in SUBSET Nat": "TRUE", "(-1) \\in Nat": "FALSE",
		"FALSE /\\ 1": "FALSE", "TRUE \\/ 1": "TRUE", "FALSE => 1": "TRUE", "TRUE => FALSE": "FALSE", "FALSE \\/ TRUE": "TRUE", "TRUE <=> FALSE": "FALSE", "FALSE <=> FALSE": "TRUE", "~TRUE": "FALSE", "CHOOSE x \\in {3, 1, 2} : x > 1": "2", "[f EXCEPT ![9] = 1 \\div 0]": "(1 :> 5 @@ 3 :> 6)", "[f EXCEPT ![3] = @ + 5]": "(1 :> 5 @@ 3 :> 11)", "1 \\in {\"a\"}": "FALSE", "1 \\notin {2}": "TRUE", "m = n": "FALSE", "m = 1": "FALSE", "m # 1": "TRUE", "{1} = {\"a\"}": "FALSE",
		"F(0, 1 \\div 0)": "0", "F(1, 7)": "7", "G(Inc, 3)": "5", "G(LAMBDA u : u * u, 3)": "81", "Fact(5)": "120", "LET a(x) == x + 1 IN a(a(1))": "3", "LET RECURSIVE a(_) a(x) == IF x = 0 THEN 0 ELSE x + a(x - 1) IN a(4)": "10", "LET a == 1 IN LET b == a + 1 IN LET a1 == 5 IN b": "2", "W(3)": "5", "P(LAMBDA u, v : u - v)": "-1", "P(F)": "2", "LET q(u, v) == v IN P(q)": "2",
		"{x \\in 1 .. 4 : x % 2 = 0}": "{2, 4}", "{x * x : x \\in {-1, 1}}": "{1}", "{x + y : x \\in {1, 2}, y \\in {10, 20}}": "{11, 12, 21, 22}", "[[x \\in {1, 2} |-> x] EXCEPT ![2] = @ + 5]": "<<1, 7>>", "UNION {{1}, {2, 3}}": "{1, 2, 3}", "UNION {}": "{}", "DOMAIN <<7, 8>>": "{1, 2}", "<<1>> \\o <<2>>": "<<1, 2>>", "[x \\in {1}, y \\in {2} |-> x + y]": "(<<1, 2>> :> 3)", "[x \\in {1}, y \\in {2} |-> x + y][1, 2]": "3", "f[3]": "6", "r.a": "1", "r.b[1]": "2",
		"[b |-> 1, a |-> 2]": "[a |-> 2, b |-> 1]", "[b : {1}, a : {2}]": "{[a |-> 2, b |-> 1]}", "[{1, 2} -> {3}]": "{<<3, 3>>}", "{1, 2} \\X {3}": "{<<1, 3>>, <<2, 3>>}", "{1, 2} \\X {3} \\X {4}": "{<<1, 3, 4>>, <<2, 3, 4>>}", "SUBSET {1, 2}": "{{}, {1}, {1, 2}, {2}}", "{1, 2} \\cup {3}": "{1, 2, 3}", "(1 .. 5) \\cap Nat": "{1, 2, 3, 4, 5}", "Int \\cap (1 .. 2)": "{1, 2}", "(1 .. 3) \\ {2}": "{1, 3}", "BOOLEAN": "{FALSE, TRUE}", "{1} \\subseteq Nat": "TRUE", "{1, 5} \\subseteq {1}": "FALSE", "<<1, 2>> \\in Seq(Nat)": "TRUE", "\"a\" \\in STRING": "TRUE",
		"IF 1 = 1 THEN 2 ELSE 1 \\div 0": "2", "CASE FALSE -> 1 [] TRUE -> 2 [] OTHER -> 3": "2", "CASE FALSE -> 1 [] OTHER -> 3": "3", "\\A x \\in {} : 1": "TRUE", "\\E x \\in {} : 1": "FALSE", "\\E x, y \\in 1 .. 3 : x + y = 6": "TRUE", "\\A x \\in {1, 2}, y \\in {} : 1": "TRUE", "\\A x \\in {1, 2} : x = 1 \\/ x = 2": "TRUE", "1 \\in IF TRUE THEN Nat ELSE {}": "TRUE", "1 \\in LET z == Nat IN z": "TRUE", "2 \\in S": "TRUE", "LET Nat == {7} IN 7 \\in Nat": "TRUE", "[f EXCEPT ![1] = [g \\in {@} |-> @][5] + 1]": "(1 :> 6 @@ 3 :> 6)",
		"\\A x \\in Nat, y \\in {} : FALSE": "?23", "<<>>": "<<>>", "{}": "{}", "K": "5", "\"s\"": "\"s\"", "[r EXCEPT !.a = 7].a": "7", "\\A x \\in SUBSET (1 .. 29) : x # {}": "FALSE", "x": "?10", "1 + x": "?10", "K(1)": "?17", "Inc": "?17", "zz(1)": "?10", "two(1)": "?10", "F(1)": "?17", "G(F, 1)": "?17", "G(1, 1)": "?17", "G(Nat, 1)": "?17", "G(LAMBDA u, v : u, 1)": "?17", "Inc(LAMBDA u : u)": "?17", "Seq({1})": "?23", "Seq": "?17", "Seq(1, 2)": "?17", "Nat = Nat": "?23", "A!B": "?10", "1 :> 2": "?10", "f @@ f": "?10",
		"1 = \"a\"": "?21", "2 + TRUE": "?20", "TRUE /\\ 1": "?20", "1 \\in 2": "?20", "f[2]": "?21", "r.c": "?21", "(1).a": "?20", "CASE FALSE -> 1": "?21", "CHOOSE x \\in {1} : x > 1": "?25", "1 \\div 0": "?26", "1 % (-1)": "?26", "0 ^ 0": "?3", "2 ^ (-1)": "?3", "10000 + 1": "?27", "100 ^ 3": "?27", "-10000 - 1": "?27", "\\A x : x": "?23", "x'": "?18", "ENABLED TRUE": "?18", "UNCHANGED 1": "?18", "[TRUE]_r": "?18", "WF_r(TRUE)": "?18", "[]TRUE": "?18", "TRUE ~> TRUE": "?18", "1 \\cdot 2": "?18", "UNION {1}": "?20", "UNION 1": "?20", "DOMAIN 1": "?20", "1 \\o <<>>": "?20", "\\A x \\in {1} : x": "?20", "IF 1 THEN 2 ELSE 3": "?20",
		"1 .. 300": "?2", "{x : x \\in 1 .. 300}": "?2", "{x % 7 : x \\in 1 .. 300}": "{0, 1, 2, 3, 4, 5, 6}", "[x \\in 1 .. 201 |-> 0]": "?2", "SUBSET (1 .. 10)": "?2", "Loop(1)": "?37", "Deep(50)": "?37", "Deep(10)": "0", "\\A x, y \\in 1 .. 200 : TRUE": "?37", "[1 EXCEPT ![1] = 2]": "?20", "SUBSET (1 .. 40)": "?2", "\\A x \\in SUBSET (1 .. 40) : TRUE": "?2", "{1, 2} \\subseteq 1": "?20", "Bad": "?26", "[x \\in {1}, y \\in 1 .. 300 |-> 0]": "?2",
	} {
		r, err := ValueOf(c, expr(t, s))
		if n, is := strings.CutPrefix(want, "?"); is {
			if strconv.Itoa(int(err)) != n || r.Steps != 0 {
				t.Errorf("%s: %d, want %s", s, err, n)
			}
			continue
		}
		if got, _ := value.FormatValue(r.Value); got != want || err != api.OK {
			t.Errorf("%s: %s %d at %d, want %s", s, got, err, r.At, want)
		}
	}
}

func TestStepsAndPlaces(t *testing.T) {
	c := context(t)
	for s, want := range map[string]int{"2 + 3 * 4": 5, `\A x \in 1 .. 3 : x * x < 10`: 19, "F(0, 1 \\div 0)": 7, "FALSE /\\ 1": 2, "LET a == 1 IN a + a": 6, "Inc(two)": 5, "1 \\in {1}": 4, "5 \\in SUBSET Nat": 4, "[f EXCEPT ![9] = 1]": 3, "<<1, 2>>": 3} {
		if r, err := ValueOf(c, expr(t, s)); r.Steps != want || err != api.OK {
			t.Errorf("%s: %d %d", s, r.Steps, err)
		}
	}
	for s, want := range map[string]int{"2 + TRUE": 1, "F(1, 1 \\div 0)": 3, "1 + Bad": 1, "1 + G(LAMBDA u : u \\div 0, 1)": 3, "1 + (1 = \"a\")": 3, "1 + LET a == Bad IN a": 1, "1 + G(Bad, 1)": 3, "\\A x \\in Nat : TRUE": 0, "[x \\in {1} |-> x][2]": 5, "2 + zz": 1, "<<1, 1 .. 300>>": 3, "1 \\in 2": 1, "W(Bad)": 0} {
		if r, err := ValueOf(c, expr(t, s)); r.At != want || err == api.OK {
			t.Errorf("%s: at %d %d, want %d", s, r.At, err, want)
		}
	}
	// in the body of a definition the place is where it is used; the operand x of the body is the argument's name there
	if r, err := ValueOf(c, expr(t, "1 + Inc(TRUE)")); r.At != 2 || err != api.ErrType {
		t.Error(r.At, err)
	}
	if r, err := ValueOf(c, expr(t, "1 + G(Inc, TRUE)")); r.At != 1 || err != api.ErrType {
		t.Error(r.At, err)
	}
}

func TestTruthAndSets(t *testing.T) {
	c := context(t)
	if ok, at, err := TruthOf(c, expr(t, "1 < 2")); !ok || at != 0 || err != api.OK {
		t.Error(ok, at, err)
	}
	if _, at, err := TruthOf(c, expr(t, "1 + 2")); at != 2 || err != api.ErrType {
		t.Error(at, err)
	}
	if _, at, err := TruthOf(c, expr(t, "1 < zz")); at != 1 || err != api.ErrMissing {
		t.Error(at, err)
	}
	for s, want := range map[string]string{"Nat": "Nat", "SUBSET Nat": "SUBSET (Nat)", "1 .. 3": "1..3", "{2, 1}": "{1, 2}", "Seq(STRING)": "Seq(STRING)", "[b : Nat, a : Int]": "[a : Int, b : Nat]", "[Nat -> Int]": "[(Nat) -> (Int)]", "Nat \\X Int": "(Nat) \\X (Int)", "Nat \\cup Int": "(Nat) \\cup (Int)", "Nat \\cap Int": "(Nat) \\cap (Int)", "Nat \\ Int": "(Nat) \\ (Int)", "IF TRUE THEN Nat ELSE 1": "Nat", "LET a(x) == SUBSET x IN a(Nat)": "SUBSET (Nat)", "CASE TRUE -> Int": "Int", "S": "1..3", "BOOLEAN": "{FALSE, TRUE}", "DOMAIN f": "{1, 3}"} {
		l, at, err := SetOf(c, expr(t, s))
		if text, _ := lazy.FormatLazy(l); text != want || at != 0 || err != api.OK {
			t.Errorf("%s: %s %d %d", s, text, at, err)
		}
	}
	if _, at, err := SetOf(c, expr(t, "1 + 1")); at != 2 || err != api.ErrType {
		t.Error(at, err)
	}
	long := "Nat" + strings.Repeat("\n \\cup Nat", 20)
	if _, at, err := SetOf(c, expr(t, long)); at != 40 || err != api.ErrLarge {
		t.Error(at, err)
	}
	if is, _, err := IsIn(c, values.Int(5), expr(t, "Nat \\ {6}")); !is || err != api.OK {
		t.Error(is, err)
	}
	if is, _, err := IsIn(c, values.Int(6), expr(t, "Nat \\ {6}")); is || err != api.OK {
		t.Error(is, err)
	}
	if _, at, err := IsIn(c, values.Int(6), expr(t, "Nat \\ zz")); at != 1 || err != api.ErrMissing {
		t.Error(at, err)
	}
	if _, _, err := IsIn(c, values.Int(20000), nil); err != api.ErrRange {
		t.Error(err)
	}
	if _, _, err := IsIn(c, values.Int(2), nil); err != api.ErrEmpty {
		t.Error(err)
	}
	l, at, err := ValuesOf(c, []api.Expr{expr(t, "1"), expr(t, "K")})
	if len(l) != 2 || l[1].N != 5 || at != 0 || err != api.OK {
		t.Error(l, at, err)
	}
	if _, at, err := ValuesOf(c, []api.Expr{expr(t, "1"), expr(t, "zz")}); at != 1 || err != api.ErrMissing {
		t.Error(at, err)
	}
	if _, at, err := ValuesOf(c, []api.Expr{expr(t, "1"), nil}); at != 1 || err != api.ErrEmpty {
		t.Error(at, err)
	}
	if _, _, err := ValuesOf(api.Context{Values: make([]api.Binding, 61)}, make([]api.Expr, 61)); err != api.ErrLarge {
		t.Error(err)
	}
}

func TestCheckContext(t *testing.T) {
	ok := func() api.Context {
		return api.Context{Values: []api.Binding{{Name: "a"}, {Name: "b"}}, Defs: []api.Def{def(t, "F(x) == x"), def(t, "G(x) == x")}}
	}
	for i, c := range []struct {
		change func(*api.Context)
		at     int
		err    api.Errno
	}{
		{func(*api.Context) {}, 0, api.OK}, {func(c *api.Context) { c.Values = make([]api.Binding, 61) }, 0, api.ErrLarge}, {func(c *api.Context) { c.Defs = make([]api.Def, 41) }, 0, api.ErrLarge}, {func(c *api.Context) { c.Values[1].Name = "TRUE" }, 1, api.ErrName}, {func(c *api.Context) { c.Values[1].Name = "a" }, 1, api.ErrExists}, {func(c *api.Context) { c.Values[1].Value.N = 7 }, 1, api.ErrForm},
		{func(c *api.Context) { c.Defs[1].Name = "1" }, 1, api.ErrName}, {func(c *api.Context) { c.Defs[1].Name = "F" }, 1, api.ErrExists}, {func(c *api.Context) { c.Defs[1].Name = "a" }, 1, api.ErrExists}, {func(c *api.Context) { c.Defs[1].Params = make([]string, 5) }, 1, api.ErrLarge}, {func(c *api.Context) { c.Defs[1].Arities = nil }, 1, api.ErrShape},
		{func(c *api.Context) { c.Defs[1].Params[0] = "IF" }, 1, api.ErrName}, {func(c *api.Context) { c.Defs[1].Params, c.Defs[1].Arities = []string{"x", "x"}, []int{0, 0} }, 1, api.ErrDouble}, {func(c *api.Context) { c.Defs[1].Arities[0] = 5 }, 1, api.ErrRange}, {func(c *api.Context) { c.Defs[1].Body = nil }, 1, api.ErrEmpty}, {func(c *api.Context) { c.Defs[1].Body = exprs.Name("zz") }, 0, api.OK},
	} {
		x := ok()
		c.change(&x)
		if at, err := CheckContext(x); at != c.at || err != c.err {
			t.Errorf("%d: %d %d", i, at, err)
		}
		_, e1 := ValueOf(x, exprs.Name("TRUE"))
		_, _, e2 := TruthOf(x, exprs.Name("TRUE"))
		_, _, e3 := SetOf(x, exprs.Name("Nat"))
		_, _, e4 := IsIn(x, api.Value{}, exprs.Name("Nat"))
		_, _, e5 := ValuesOf(x, nil)
		for _, e := range []api.Errno{e1, e2, e3, e4, e5} {
			if e != c.err {
				t.Errorf("%d: %d", i, e)
			}
		}
	}
	if _, err := ValueOf(ok(), nil); err != api.ErrEmpty {
		t.Error(err)
	}
}

func TestExprOf(t *testing.T) {
	c := context(t)
	for v, want := range map[string]string{"5": "5", "-5": "-5", `"a"`: `"a"`, "TRUE": "TRUE", "m": "m", "{1, {m}}": "{1, {m}}", "<<1, -2>>": "<<1, -2>>", "[b |-> 1, a |-> 2]": "[a |-> 2, b |-> 1]", "(0 :> m @@ n :> 3)": `[k \in {0, n} |-> CASE k = 0 -> m [] k = n -> 3]`, "(0 :> k @@ k_1 :> 3)": `[k_2 \in {0, k_1} |-> CASE k_2 = 0 -> k [] k_2 = k_1 -> 3]`,
		`("a b" :> (2 :> 3))`: `[k \in {"a b"} |-> CASE k = "a b" -> [k \in {2} |-> CASE k = 2 -> 3]]`, "<<>>": "<<>>", "{}": "{}"} {
		e, err := ExprOf(read(t, v))
		if s, _ := tree.FormatExpr(e); s != want || err != api.OK {
			t.Errorf("%s: %s %d", v, s, err)
		}
		if strings.Contains(v, "k") {
			continue
		}
		if r, err := ValueOf(c, e); !values.Same(r.Value, read(t, v)) || err != api.OK {
			t.Errorf("%s: back %v %d", v, r, err)
		}
	}
	many := func(n int) api.Value {
		var l []api.Value
		for i := range n {
			l = append(l, values.Int(i))
		}
		return values.Set(l...)
	}
	keys := func(n int) api.Value {
		f, _ := values.Func(many(n).Items, many(n).Items)
		return f
	}
	for i, x := range []struct {
		v   api.Value
		err api.Errno
	}{{values.Int(20000), api.ErrRange}, {values.String(`a"`), api.ErrRefused}, {values.String(`a\`), api.ErrRefused}, {values.Model("BOOLEAN"), api.ErrRefused}, {values.Model("WF_x"), api.ErrRefused}, {read(t, "[STRING |-> 1]"), api.ErrRefused}, {read(t, `(0 :> 1 @@ "a" :> 2)`), api.ErrRefused}, {many(30), api.OK}, {many(31), api.ErrLarge}, {keys(15), api.OK}, {keys(16), api.ErrLarge},
		{values.Tuple(many(31), values.Model("STRING")), api.ErrRefused}, {values.Tuple(values.Tuple(many(30).Items...), values.Tuple(many(30).Items...), values.Tuple(many(30).Items...), values.Tuple(many(30).Items...), values.Tuple(many(30).Items...), values.Tuple(many(30).Items...)), api.ErrLarge}} {
		if _, err := ExprOf(x.v); err != x.err {
			t.Errorf("%d: %d", i, err)
		}
	}
}

func TestConsequences(t *testing.T) {
	c := context(t)
	for _, s := range []string{
		`(\A x \in S : x < 3) = (~\E x \in S : ~(x < 3))`, `LET a == CHOOSE x \in S : x > 1 IN a > 1 /\ a \in S`, `\A x \in S : (x \in {y \in S : y # 2}) = (x # 2)`, `LET g == [x \in S |-> x * 2] IN \A x \in S : g[x] = x * 2`, `(LET a == 2 IN a + two) = 2 + two`, `\A x \in SUBSET S : x \subseteq S`, `\A x \in 1 .. 5 : (x \in S) = (x \in {1, 2, 3})`,
	} {
		if ok, at, err := TruthOf(c, expr(t, s)); !ok || err != api.OK {
			t.Errorf("%s: %d %d", s, at, err)
		}
	}
}
