package pluscal

import (
	"reflect"
	"slices"
	"strings"
	"testing"

	"stutter/api"
	"stutter/exprs"
)

func parsed(t *testing.T, s string) api.Algorithm {
	t.Helper()
	a, p, err := ParseAlgorithm(strings.Split(strings.ReplaceAll(s, "; ", ";\n"), "\n"))
	if err != api.OK {
		at, _ := CheckAlgorithm(a)
		t.Fatalf("%s: %v %d %v", s, p, err, at)
	}
	return a
}

const long = `--fair strong algorithm Big
variables x = 0, y \in {1, 2}, z;
define
  D(a, G(_)) == G(a)
  E == x
end define;
macro inc(v, n) begin
  v := v + n;
end macro;
procedure P(a, b)
variables c = 1;
begin
  P1: c := a;
  P2: return;
end procedure;
begin
  A: x[1, 2] := 3 || y.f := x;
  B: if x = 0 then
    skip;
  elsif y = 1 then
    goto A;
  else
    C: inc(z, 2);
  end if;
  W: while x < 3 do
    either
      x := x + 1;
    or
      await y = 1;
    or
      call P(1, x);
    end either;
  end while;
  X: with u = 1 do
    with w \in {1} do
      assert u = w;
    end with;
  end with;
  if x = 1 then
    Y: skip;
  else
    Z: if x = 2 then
      skip;
    end if;
  end if;
end algorithm`

const short = `--algorithm Two {
  variables x = 0;
  define {
    E == x
  }
  macro m() {
    skip;
  }
  procedure P()
  {
    P1: return;
  }
  fair process (p = 1)
  variables l = 2;
  {
    A: while (x < 3) {
      x := self;
      if (x = 1) {
        skip;
      } else if (x = 2) {
        m();
      } else {
        B: skip;
      };
    };
  }
  process (q \in {2, 3})
  {
    Q: either {
      skip;
    } or {
      with (u \in {1}) {
        x := u;
      };
    };
  }
}`

func TestTexts(t *testing.T) {
	for _, s := range []string{long, short} {
		a := parsed(t, s)
		l, err := FormatLong(a)
		k, err2 := FormatShort(a)
		if err != api.OK || err2 != api.OK {
			t.Fatal(err, err2)
		}
		want := strings.Join(l, "\n")
		if s == short {
			want = strings.Join(k, "\n")
		}
		if want != s {
			t.Errorf("%s", want)
		}
		if b := parsed(t, strings.Join(l, "\n")); !reflect.DeepEqual(a, b) {
			t.Errorf("long: %v\n%v", a, b)
		}
		if b := parsed(t, strings.Join(k, "\n")); !reflect.DeepEqual(a, b) {
			t.Errorf("short: %v\n%v", a, b)
		}
	}
	a := parsed(t, "--algorithm Count { variables x = 0; { A: while (x < 3) x := x + 1 } }")
	b := parsed(t, "--algorithm Count\nvariables x = 0;\nbegin\nA: while x < 3 do\nx := x + 1;\nend while;\nend algorithm")
	if !reflect.DeepEqual(a, b) {
		t.Error(a, b)
	}
	a = parsed(t, "--algorithm C begin A: with x = 1, y \\in {2} do skip end with; if e then skip; else if f then skip; end if; end if; end algorithm")
	l, _ := FormatLong(a)
	if strings.Join(l, "|") != "--algorithm C|begin|  A: with x = 1 do|    with y \\in {2} do|      skip;|    end with;|  end with;|  if e then|    skip;|  elsif f then|    skip;|  end if;|end algorithm" {
		t.Errorf("%q", l)
	}
	for s, want := range map[string]api.TextPlace{"": {}, "--algorithm": {Column: 11}, "--algorithm C\nbegin\nA: skip skip end algorithm": {Line: 2, Column: 8}, "--algorithm C begin end algorithm": {Column: 20}, "--algorithm C begin A: skip; end algorithm x": {Column: 43}, "--algorithm if": {Column: 12}, "--algorithm C { { A: skip } ": {Column: 27}, "--algorithm C begin A: either skip; end either end algorithm": {Column: 36}, "x": {}} {
		if _, p, err := ParseAlgorithm(strings.Split(s, "\n")); p != want || err != api.ErrSyntax {
			t.Errorf("%q: %v %d", s, p, err)
		}
	}
	for s, want := range map[string]struct {
		p   api.TextPlace
		err api.Errno
	}{"(*": {api.TextPlace{}, api.ErrOpen}, "--algorithm C begin A: await x = y = z; end algorithm": {api.TextPlace{Column: 35}, api.ErrClash}, "--algorithm C begin A: while x + do skip end while end algorithm": {api.TextPlace{Column: 33}, api.ErrEnd}, "--algorithm C begin skip; end algorithm": {api.TextPlace{}, api.ErrOrder}, "--algorithm C begin A: await x +": {api.TextPlace{Column: 32}, api.ErrEnd}} {
		if _, p, err := ParseAlgorithm([]string{s}); p != want.p || err != want.err {
			t.Errorf("%q: %v %d", s, p, err)
		}
	}
	if w := WordsOf(); len(w) != 25 || !slices.IsSorted(w) {
		t.Error(w)
	}
}

// body makes an algorithm with the variables x, y, a macro inc(v), a procedure P(a), and a body.
func body(s string) string {
	return "--algorithm C\nvariables x = 0, y = 0;\nmacro inc(v) begin v := v + 1; end macro;\nprocedure P(a) begin P1: return; end procedure;\nbegin " + s + " end algorithm"
}

// withoutCheck reads an algorithm that need not be right.
func withoutCheck(t *testing.T, s string) api.Algorithm {
	t.Helper()
	return rawOf(t, strings.Split(s, "\n"))
}

func TestStatements(t *testing.T) {
	for s, want := range map[string]struct {
		at  int
		err api.Errno
	}{
		"A: x := 1; B: x := 2;": {0, api.OK}, "A: x := 1; x := 2;": {1, api.ErrDouble}, "A: x := 1 || x := 2;": {0, api.ErrDouble}, "A: x[1] := 2 || x[2] := 3;": {0, api.OK}, "A: x[1] := 2 || x := 3;": {0, api.ErrDouble}, "A: x[1] := 2; x[2] := 3;": {1, api.ErrDouble}, "A: if x = 0 then goto B; end if; x := 1; B: skip;": {2, api.OK}, "x := 1;": {0, api.ErrOrder}, "A: while TRUE do skip; end while; skip;": {2, api.OK}, "A: skip; while TRUE do skip; end while;": {1, api.ErrOrder},
		"A: goto A; skip;": {1, api.ErrOrder}, "A: call P(1); skip;": {1, api.ErrOrder}, "A: if x = 0 then B: skip; end if; skip;": {2, api.ErrOrder}, "A: with u = 1 do goto A; end with; skip;": {2, api.ErrOrder}, "A: if x = 0 then x := 1; else y := 1; end if; y := 2;": {3, api.ErrDouble}, "A: if x = 0 then x := 1; else x := 2; end if;": {0, api.OK}, "A: either x := 1; or skip; end either; x := 1;": {3, api.ErrDouble}, "A: inc(x); x := 2;": {1, api.ErrDouble}, "A: inc(x); inc(y);": {0, api.OK}, "A: inc(x); inc(x);": {1, api.ErrDouble}, "A: inc(3);": {0, api.ErrClash}, "A: inc(x + 1);": {0, api.ErrClash}, "A: inc(x, y);": {0, api.ErrArity},
		"A: nope(x);": {0, api.ErrMissing}, "A: call nope();": {0, api.ErrMissing}, "A: call P();": {0, api.ErrArity}, "A: goto P1;": {0, api.ErrMissing}, "A: z := 1;": {0, api.ErrMissing}, "A: a := 1;": {0, api.ErrMissing}, "A: return;": {0, api.ErrState}, "A: with u = 1 do B: skip; end with;": {1, api.ErrState}, "A: skip; A: skip;": {1, api.ErrExists}, "P1: skip;": {0, api.ErrExists}, "Done: skip;": {0, api.ErrName}, "Error: skip;": {0, api.ErrName}, "A: with x = 1 do skip; end with;": {0, api.ErrCapture}, "A: with self = 1 do skip; end with;": {0, api.ErrCapture}, "A: with u = 1 do with u = 2 do skip; end with; end with;": {1, api.ErrCapture}, "A: await \\A x \\in {} : TRUE;": {0, api.ErrCapture}, "A: await \\A pc \\in {} : TRUE;": {0, api.ErrCapture}, "A: await \\A u \\in {} : TRUE;": {0, api.OK},
		"A: while x = 0 do x := 1; B: x := 2; end while; x := 3;": {0, api.OK}, "A: x := 1; call P(1);": {0, api.OK}, "A: await [f |-> 1].f = 2;": {0, api.OK},
	} {
		if s == "A: if x = 0 then goto B; end if; x := 1; B: skip;" {
			want.err = api.ErrOrder
		}
		a := withoutCheck(t, body(s))
		at, err := CheckAlgorithm(a)
		if err != want.err || err != api.OK && at != (api.PlusPlace{Stmt: want.at}) {
			t.Errorf("%s: %v %d", s, at, err)
		}
		_, e1 := LabelsOf(a)
		_, e2 := Expanded(a)
		_, e3 := StatementAt(a, api.PlusPlace{Stmt: 0})
		_, e4 := AssignedIn(a, "P1")
		_, e5 := FormatLong(a)
		_, e6 := FormatShort(a)
		for _, e := range []api.Errno{e1, e2, e3, e4, e5, e6} {
			if e != want.err {
				t.Errorf("%s: %d", s, e)
			}
		}
	}
}

func TestCheck(t *testing.T) {
	skip := []api.PlusStmt{{}}
	deep := api.PlusStmt{Kind: api.PlusIf, Blocks: make([][]api.PlusStmt, 2), Exprs: []api.Expr{exprs.Name("x")}}
	self := []api.PlusStmt{{Kind: api.PlusIf, Blocks: make([][]api.PlusStmt, 2)}}
	self[0].Blocks[0] = self
	many := func(n int) (out []api.PlusVar) {
		for i := range n {
			out = append(out, api.PlusVar{Name: "v" + string(rune('a'+i))})
		}
		return out
	}
	_ = deep
	one := exprs.Name("x")
	for i, c := range []struct {
		change func(a *api.Algorithm)
		at     api.PlusPlace
		err    api.Errno
	}{
		{func(*api.Algorithm) {}, api.PlusPlace{}, api.OK}, {func(a *api.Algorithm) { a.Macros = make([]api.PlusMacro, 5) }, api.PlusPlace{}, api.ErrLarge}, {func(a *api.Algorithm) { a.Procedures = make([]api.PlusProcedure, 5) }, api.PlusPlace{}, api.ErrLarge}, {func(a *api.Algorithm) { a.Defs = make([]api.Def, 41) }, api.PlusPlace{}, api.ErrLarge}, {func(a *api.Algorithm) { a.Vars = many(8) }, api.PlusPlace{}, api.ErrLarge}, {func(a *api.Algorithm) { a.Body = make([]api.PlusStmt, 61) }, api.PlusPlace{}, api.ErrLarge}, {func(a *api.Algorithm) { a.Body = self }, api.PlusPlace{}, api.ErrLarge},
		{func(a *api.Algorithm) { a.Name = "if" }, api.PlusPlace{}, api.ErrName}, {func(a *api.Algorithm) { a.Body = nil }, api.PlusPlace{}, api.ErrShape}, {func(a *api.Algorithm) { a.Processes = []api.PlusProcess{{Name: "p", Value: one, Body: skip}} }, api.PlusPlace{}, api.ErrShape}, {func(a *api.Algorithm) { a.Fair = 3 }, api.PlusPlace{}, api.ErrRange}, {func(a *api.Algorithm) {
			a.Body, a.Fair, a.Processes = nil, 1, []api.PlusProcess{{Name: "p", Value: one, Body: a.Body}}
		}, api.PlusPlace{}, api.ErrRange}, {func(a *api.Algorithm) { a.Vars[0].Name = "pc" }, api.PlusPlace{}, api.ErrName}, {func(a *api.Algorithm) { a.Vars[0].Name = "Done" }, api.PlusPlace{}, api.ErrName}, {func(a *api.Algorithm) { a.Vars[0].Name = "inc" }, api.PlusPlace{}, api.ErrExists}, {func(a *api.Algorithm) { a.Procedures[0].Params[0] = "x" }, api.PlusPlace{}, api.ErrExists},
		{func(a *api.Algorithm) { a.Vars[0].Begins = 3 }, api.PlusPlace{}, api.ErrKind}, {func(a *api.Algorithm) { a.Vars[0].Begins = 0 }, api.PlusPlace{}, api.ErrForm}, {func(a *api.Algorithm) { a.Vars[0].Value = exprs.Name("while") }, api.PlusPlace{}, api.ErrName}, {func(a *api.Algorithm) { a.Vars[0].Value = nil }, api.PlusPlace{}, api.ErrEmpty}, {func(a *api.Algorithm) { a.Defs = []api.Def{{Name: "D", Body: one, Local: true}} }, api.PlusPlace{}, api.ErrForm}, {func(a *api.Algorithm) { a.Defs = []api.Def{{Name: "D"}} }, api.PlusPlace{}, api.ErrEmpty}, {func(a *api.Algorithm) {
			a.Defs = []api.Def{{Name: "D", Params: []string{"or"}, Arities: []int{0}, Body: one}}
		}, api.PlusPlace{}, api.ErrName},
		{func(a *api.Algorithm) { a.Macros[0].Params = make([]string, 5) }, api.PlusPlace{}, api.ErrLarge}, {func(a *api.Algorithm) { a.Macros[0].Params[0] = "or" }, api.PlusPlace{}, api.ErrName}, {func(a *api.Algorithm) { a.Macros[0].Params = []string{"v", "v"} }, api.PlusPlace{}, api.ErrDouble}, {func(a *api.Algorithm) { a.Macros[0].Params[0] = "x" }, api.PlusPlace{}, api.ErrExists}, {func(a *api.Algorithm) { a.Macros[0].Params[0] = "self" }, api.PlusPlace{}, api.ErrExists}, {func(a *api.Algorithm) { a.Macros[0].Body = nil }, api.PlusPlace{}, api.ErrEmpty}, {func(a *api.Algorithm) {
			a.Procedures[0].Params, a.Vars = []string{"a", "b", "c", "d", "e"}, nil
		}, api.PlusPlace{}, api.ErrLarge},
		{func(a *api.Algorithm) {
			a.Procedures[0].Vars = []api.PlusVar{{Name: "l", Begins: api.PlusIn, Value: one}}
		}, api.PlusPlace{}, api.ErrRefused}, {func(a *api.Algorithm) { a.Procedures[0].Body = nil }, api.PlusPlace{}, api.ErrEmpty}, {func(a *api.Algorithm) {
			a.Processes, a.Body = []api.PlusProcess{{Name: "p", Fair: 3, Value: one, Body: a.Body}}, nil
		}, api.PlusPlace{}, api.ErrRange}, {func(a *api.Algorithm) {
			a.Processes, a.Body = []api.PlusProcess{{Name: "p", Body: a.Body}}, nil
		}, api.PlusPlace{}, api.ErrEmpty},
		{func(a *api.Algorithm) { a.Body[0].Kind = api.PlusKinds }, api.PlusPlace{}, api.ErrKind}, {func(a *api.Algorithm) { a.Body[0].Kind = -1 }, api.PlusPlace{}, api.ErrKind}, {func(a *api.Algorithm) { a.Body[0].Exprs = []api.Expr{one} }, api.PlusPlace{}, api.ErrShape}, {func(a *api.Algorithm) { a.Body[0].Blocks = [][]api.PlusStmt{skip} }, api.PlusPlace{}, api.ErrShape}, {func(a *api.Algorithm) {
			a.Body[0] = api.PlusStmt{Kind: api.PlusIf, Label: "A", Exprs: []api.Expr{one}, Blocks: make([][]api.PlusStmt, 2)}
		}, api.PlusPlace{}, api.ErrShape}, {func(a *api.Algorithm) {
			a.Body[0] = api.PlusStmt{Kind: api.PlusAssign, Label: "A", Exprs: []api.Expr{one}, Targets: []api.PlusTarget{{Name: "x", Field: "f", Index: []api.Expr{one}}}}
		}, api.PlusPlace{}, api.ErrShape}, {func(a *api.Algorithm) {
			a.Body[0] = api.PlusStmt{Kind: api.PlusEither, Label: "A", Blocks: [][]api.PlusStmt{skip}}
		}, api.PlusPlace{}, api.ErrShape},
		{func(a *api.Algorithm) { a.Body[0].Name = "n" }, api.PlusPlace{}, api.ErrForm}, {func(a *api.Algorithm) { a.Body[0].In = true }, api.PlusPlace{}, api.ErrForm}, {func(a *api.Algorithm) { a.Body[0].Label = "or" }, api.PlusPlace{}, api.ErrName}, {func(a *api.Algorithm) { a.Body[0].Kind = api.PlusGoto }, api.PlusPlace{}, api.ErrName}, {func(a *api.Algorithm) {
			a.Body[0] = api.PlusStmt{Kind: api.PlusAwait, Label: "A", Exprs: []api.Expr{nil}}
		}, api.PlusPlace{}, api.ErrEmpty}, {func(a *api.Algorithm) { a.Macros[0].Body[0].Label = "L" }, api.PlusPlace{Part: "inc"}, api.ErrState}, {func(a *api.Algorithm) {
			a.Macros[0].Body = []api.PlusStmt{{Kind: api.PlusUse, Name: "inc", Exprs: []api.Expr{exprs.Name("v")}}}
		}, api.PlusPlace{Part: "inc"}, api.ErrState}, {func(a *api.Algorithm) {
			a.Macros[0].Body = append(a.Macros[0].Body, a.Macros[0].Body[0])
		}, api.PlusPlace{Part: "inc", Stmt: 1}, api.ErrDouble}, {func(a *api.Algorithm) { a.Procedures[0].Body[0].Label = "" }, api.PlusPlace{Part: "P"}, api.ErrOrder}, {func(a *api.Algorithm) {
			a.Procedures[0].Body = []api.PlusStmt{{Kind: api.PlusAssign, Label: "L", Targets: []api.PlusTarget{{Name: "a"}}, Exprs: []api.Expr{one}}, {Kind: api.PlusReturn}}
		}, api.PlusPlace{Part: "P", Stmt: 1}, api.ErrDouble},
	} {
		a := withoutCheck(t, body("A: skip; x := 1;"))
		c.change(&a)
		if at, err := CheckAlgorithm(a); at != c.at || err != c.err {
			t.Errorf("%d: %v %d", i, at, err)
		}
	}
}

func TestLabels(t *testing.T) {
	a := parsed(t, long)
	if l, err := LabelsOf(a); strings.Join(l, " ") != "P1 P2 A B C W X Y Z" || err != api.OK {
		t.Error(l, err)
	}
	for label, want := range map[string]string{"A": "x y", "B": "", "C": "z", "W": "a b c x", "P1": "c", "P2": "a b c", "X": "", "Y": ""} {
		if l, err := AssignedIn(a, label); strings.Join(l, " ") != want || err != api.OK {
			t.Errorf("%s: %v %d", label, l, err)
		}
	}
	_, e1 := AssignedIn(a, "nope")
	_, e2 := StatementAt(a, api.PlusPlace{Stmt: 99})
	_, e3 := StatementAt(a, api.PlusPlace{Part: "nope"})
	if e1 != api.ErrMissing || e2 != api.ErrMissing || e3 != api.ErrMissing {
		t.Error(e1, e2, e3)
	}
	if s, err := StatementAt(a, api.PlusPlace{Stmt: 6}); s.Kind != api.PlusWhile || s.Label != "W" || err != api.OK {
		t.Error(s, err)
	}
	if s, err := StatementAt(a, api.PlusPlace{Part: "P", Stmt: 1}); s.Kind != api.PlusReturn || err != api.OK {
		t.Error(s, err)
	}
}

func TestExpanded(t *testing.T) {
	a := parsed(t, body("A: inc(x); B: if x = 0 then inc(y); skip; end if;"))
	b, err := Expanded(a)
	l, _ := FormatShort(b)
	if err != api.OK || len(b.Macros) != 0 || !slices.Contains(l, "    A: x := x + 1;") || !slices.Contains(l, "      y := y + 1;") {
		t.Errorf("%q %d", l, err)
	}
	before, _ := LabelsOf(a)
	after, _ := LabelsOf(b)
	again, err := Expanded(b)
	if !slices.Equal(before, after) || !reflect.DeepEqual(b, again) || err != api.OK {
		t.Error(before, after, err)
	}
	c := parsed(t, "--algorithm C variables x = 0; macro m(v) begin with t = 1 do x := v + t; end with; end macro; begin A: m(t1); B: with t = 5 do m(t); end with; end algorithm")
	if _, err := Expanded(c); err != api.ErrCapture {
		t.Error(err)
	}
	c = parsed(t, "--algorithm C variables x = 0; macro m(v) begin x := {u \\in {1} : u = v}; end macro; begin A: m({u \\in {2} : TRUE}); end algorithm")
	if _, err := Expanded(c); err != api.OK {
		t.Error(err)
	}
	c = parsed(t, "--algorithm C variables x = 0; macro m(v) begin x := v; skip; end macro; begin L: m(x); B: skip; end algorithm")
	b, err = Expanded(c)
	if len(b.Body) != 3 || b.Body[0].Label != "L" || b.Body[1].Label != "" || err != api.OK {
		t.Error(b, err)
	}
}

func TestLargeTexts(t *testing.T) {
	a := parsed(t, "--algorithm C variables x = 0; begin A: x := 1; end algorithm")
	name := exprs.Name(strings.Repeat("n", 24))
	a.Body[0].Exprs[0] = exprs.Make(api.Node{Kind: api.ExprTuple}, name, name, name, name, name)
	if _, err := FormatLong(a); err != api.ErrLarge {
		t.Error(err)
	}
}

// rawOf reads an algorithm that need not be right.
func rawOf(t *testing.T, lines []string) api.Algorithm {
	t.Helper()
	list := tokensOf(t, lines)
	a, f := read(list)
	if f.err != api.OK {
		t.Fatal(lines, f)
	}
	return a
}
