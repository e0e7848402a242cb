package scope

import (
	"reflect"
	"slices"
	"strconv"
	"strings"
	"testing"

	"stutter/api"
	"stutter/units"
)

// modules reads modules, each given as its name, a colon, and its inner text with semicolons for new lines.
func modules(t *testing.T, texts ...string) []api.Module {
	t.Helper()
	var lines []string
	for _, s := range texts {
		name, body, _ := strings.Cut(s, ":")
		lines = append(lines, "---- MODULE "+name+" ----")
		lines = append(lines, strings.Split(body, ";")...)
		lines = append(lines, "====")
	}
	l, p, err := units.ModulesOf(lines)
	if err != api.OK {
		t.Fatalf("%q: %v %d", texts, p, err)
	}
	return l
}

func show(l []api.ScopeName) string {
	var out []string
	for _, s := range l {
		text := s.Name + "@" + s.Module + "." + strconv.Itoa(s.Kind)
		for _, p := range s.Params {
			text += "," + strconv.Itoa(p)
		}
		out = append(out, text)
	}
	return strings.Join(out, " ")
}

const within = "---- MODULE "

func TestCheckProgram(t *testing.T) {
	for i, c := range []struct {
		l            []string
		module, unit int
		err          api.Errno
	}{
		{[]string{"M:VARIABLE x;F(a) == a + x", "N:EXTENDS M;G == F(1)"}, 0, 0, api.OK},
		{[]string{"P:CONSTANT c;H == c", "Q:VARIABLE y;I == INSTANCE P WITH c <- y;K == I!H"}, 0, 0, api.OK},
		{[]string{"P:CONSTANT c;H == c", "Q:VARIABLE y;I == INSTANCE P;K == I!H"}, 1, 1, api.ErrUnassigned},
		{[]string{"P:CONSTANT c;H == c", "Q:VARIABLE c;I == INSTANCE P;K == I!H"}, 0, 0, api.OK},
		{[]string{"P:CONSTANT c(_);H == c(1)", "Q:VARIABLE c;I == INSTANCE P"}, 1, 1, api.ErrUnassigned},
		{[]string{"P:CONSTANT c;H == c", "Q:I(c) == INSTANCE P;K == I!H(3)"}, 0, 0, api.OK},
		{[]string{"M:A == B;B == 1"}, 0, 0, api.ErrMissing}, {[]string{"M:RECURSIVE A;A == A"}, 0, 0, api.OK}, {[]string{"M:A == A"}, 0, 0, api.ErrMissing}, {[]string{"M:RECURSIVE A, B;A == A"}, 0, 0, api.ErrOpen}, {[]string{"M:C == 1;RECURSIVE A;D == A"}, 0, 1, api.ErrOpen},
		{[]string{"M:RECURSIVE A(_);A == 1"}, 0, 1, api.ErrExists}, {[]string{"M:RECURSIVE A(_);A(B(_)) == 1"}, 0, 1, api.ErrExists}, {[]string{"M:RECURSIVE A(_);VARIABLE A"}, 0, 1, api.ErrExists}, {[]string{"M:VARIABLE A;RECURSIVE A;B == 1"}, 0, 1, api.ErrExists},
		{[]string{"M:F(G(_)) == G(1);S(a) == a;T == F(S)"}, 0, 0, api.OK}, {[]string{"M:F(G(_)) == G(1);T == F(1)"}, 0, 1, api.ErrArity}, {[]string{"M:F(G(_)) == G(1);T == F(LAMBDA u : u)"}, 0, 0, api.OK}, {[]string{"M:F(G(_)) == G(1);T == F(LAMBDA u, v : u)"}, 0, 1, api.ErrArity},
		{[]string{"M:F(G(_)) == G(1);T == F(F)"}, 0, 1, api.ErrArity}, {[]string{"M:F(G(_)) == G(1);VARIABLE x;T == F(x)"}, 0, 2, api.ErrArity}, {[]string{"M:F(G(_)) == G(1);T == F(TRUE)"}, 0, 1, api.ErrArity}, {[]string{"M:F(g) == g;T == F(LAMBDA u : u)"}, 0, 1, api.ErrArity}, {[]string{"M:F(g) == g;T == F"}, 0, 1, api.ErrArity},
		{[]string{"M:F(g) == g;T == F(F)"}, 0, 1, api.ErrArity}, {[]string{"M:F(g) == g(1)"}, 0, 0, api.ErrArity}, {[]string{"M:F(g(_)) == g"}, 0, 0, api.ErrArity}, {[]string{"M:F(g) == F(g)"}, 0, 0, api.ErrMissing}, {[]string{"M:T == LET f(a) == a IN f(1)"}, 0, 0, api.OK}, {[]string{"M:T == LET f(a) == f(a) IN f(1)"}, 0, 0, api.ErrMissing},
		{[]string{"M:T == LET RECURSIVE f(_) f(a) == f(a) IN f(1)"}, 0, 0, api.OK}, {[]string{"M:T == LET f(a) == a IN f"}, 0, 0, api.ErrArity}, {[]string{"M:F(G(_)) == G(1);T == LET f(a) == a IN F(f)"}, 0, 0, api.OK}, {[]string{`M:T == \A u \in {} : u(1)`}, 0, 0, api.ErrArity},
		{[]string{`M:VARIABLE x;T == \A x \in {} : x`}, 0, 1, api.ErrExists}, {[]string{`M:T == \A x \in {} : \E x \in {} : x`}, 0, 0, api.ErrExists}, {[]string{`M:T == (\A x \in {} : x) /\ \E x \in {} : x`}, 0, 0, api.OK}, {[]string{`M:VARIABLE x;T(x) == x`}, 0, 1, api.ErrExists}, {[]string{`M:T(x) == {x \in {} : x}`}, 0, 0, api.ErrExists},
		{[]string{`M:T(T) == T`}, 0, 0, api.OK}, {[]string{`M:T == LET T == 1 IN T`}, 0, 0, api.OK}, {[]string{`M:T == 1;U == [T |-> 2].T`}, 0, 0, api.OK}, {[]string{`M:T == \A x \in zz : T`}, 0, 0, api.ErrMissing}, {[]string{`M:VARIABLE x;T == \A x \in zz : T`}, 0, 1, api.ErrMissing},
		{[]string{"M:EXTENDS Sequences;T == Len(<<>>)"}, 0, 0, api.OK}, {[]string{"M:T == Len(<<>>)"}, 0, 0, api.ErrMissing}, {[]string{"M:EXTENDS Sequences;T == Len(1, 2)"}, 0, 0, api.ErrArity}, {[]string{"M:EXTENDS Sequences;Len == 1"}, 0, 0, api.ErrExists}, {[]string{"M:EXTENDS Bags, TLC, Naturals;T == EmptyBag"}, 0, 0, api.OK}, {[]string{"M:EXTENDS Integers;T == 1"}, 0, 0, api.OK},
		{[]string{"M:EXTENDS N"}, 0, 0, api.ErrMissing}, {[]string{"M:T == 1;INSTANCE N"}, 0, 1, api.ErrMissing}, {[]string{"M:EXTENDS N", "N:EXTENDS M"}, 0, 0, api.ErrLoop}, {[]string{"A:T == 1", "M:EXTENDS N", "N:INSTANCE M"}, 1, 0, api.ErrLoop}, {[]string{"M:T == 1", "Bags:T == 1"}, 1, 0, api.ErrExists},
		{[]string{"A:T == 1", "B:T == 1", "M:EXTENDS A, B"}, 2, 0, api.ErrClash}, {[]string{"C:T == 1", "A:EXTENDS C", "B:EXTENDS C", "M:EXTENDS A, B;U == T"}, 0, 0, api.OK}, {[]string{"M:EXTENDS A;T == 1", "A:T == 1"}, 0, 0, api.ErrExists}, {[]string{"A:LOCAL T == 1", "M:EXTENDS A;T == 1"}, 0, 0, api.OK}, {[]string{"A:LOCAL T == 1", "M:EXTENDS A;U == T"}, 1, 0, api.ErrMissing},
		{[]string{"M:LOCAL T == 1;U == T"}, 0, 0, api.OK}, {[]string{"A:T == 1", "M:INSTANCE A;U == T"}, 0, 0, api.OK}, {[]string{"A:T == 1", "M:T == 2;INSTANCE A"}, 1, 1, api.ErrExists}, {[]string{"A:T == 1", "M:I == INSTANCE A;J == I!T;K == I"}, 1, 2, api.ErrMissing}, {[]string{"A:VARIABLE x;T == 1", "M:VARIABLE y;I == INSTANCE A WITH x <- y;K == I!x"}, 1, 2, api.ErrMissing},
		{[]string{"A:T == 1", "M:INSTANCE A WITH z <- 1"}, 1, 0, api.ErrMissing}, {[]string{"A:T == 1", "M:INSTANCE A WITH T <- 1"}, 1, 0, api.ErrMissing}, {[]string{"A:CONSTANT c(_);T == 1", "M:INSTANCE A WITH c <- 1"}, 1, 0, api.ErrArity}, {[]string{"A:CONSTANT c(_);T == 1", "M:F(a) == a;INSTANCE A WITH c <- F"}, 0, 0, api.OK}, {[]string{"A:CONSTANT c(_);T == 1", "M:F(a, b) == a;INSTANCE A WITH c <- F"}, 1, 1, api.ErrArity},
		{[]string{"A:CONSTANT c(_);T == 1", "M:F == 1;INSTANCE A WITH c <- F"}, 1, 1, api.ErrArity}, {[]string{"A:CONSTANT c;T == 1", "M:F(a) == 1;INSTANCE A WITH c <- F"}, 1, 1, api.ErrArity}, {[]string{"A:CONSTANT c;T == 1", "M:I(p) == INSTANCE A WITH c <- p + 1;U == I!T(2)"}, 0, 0, api.OK}, {[]string{"A:CONSTANT c;T == 1", "M:I(p) == INSTANCE A WITH c <- p + 1;U == I!T"}, 1, 1, api.ErrArity},
		{[]string{"A:CONSTANT c;T == 1", "M:VARIABLE p;I(p) == INSTANCE A WITH c <- p + 1"}, 1, 1, api.ErrExists}, {[]string{"A:T == 1", "B:EXTENDS C", "M:I == INSTANCE A", "C:I == 2", "D:EXTENDS C;I == INSTANCE A"}, 4, 0, api.ErrExists},
		{[]string{"M:VARIABLE x;" + within + "A ----;T == x;====;INSTANCE A;U == T"}, 0, 0, api.OK}, {[]string{"M:" + within + "A ----;VARIABLE x;T == x;====;J == INSTANCE A WITH x <- 1;U == J!T"}, 0, 0, api.OK}, {[]string{"M:J == INSTANCE A;" + within + "A ----;T == 1;===="}, 0, 0, api.ErrMissing}, {[]string{"M:" + within + "A ----;T == U;====;U == 1"}, 0, 0, api.ErrMissing},
		{[]string{"M:V == 1;" + within + "A ----;EXTENDS M;T == 1;===="}, 0, 0, api.ErrLoop}, {[]string{"M:V == 1;" + within + "A ----;EXTENDS Z;T == 1;===="}, 0, 1, api.ErrMissing}, {[]string{"M:V == 1;" + within + "A ----;V == 1;===="}, 0, 1, api.ErrExists}, {[]string{"B:V == 1", "M:V == 1;" + within + "A ----;EXTENDS B;===="}, 1, 1, api.ErrClash},
		{[]string{"M:V == 1;" + within + "A ----;====;" + within + "A ----;===="}, 0, 2, api.ErrExists}, {[]string{"M:" + within + "B ----;" + within + "A ----;====;" + within + "A ----;====;===="}, 0, 0, api.ErrExists}, {[]string{"M:" + within + "B ----;RECURSIVE A;===="}, 0, 0, api.ErrOpen}, {[]string{"A:V == 1", "M:" + within + "A ----;W == 1;====;INSTANCE A;U == W"}, 0, 0, api.OK},
		{[]string{"A:THEOREM T == 1 = 1;ASSUME U == TRUE", "M:EXTENDS A;V == T /\\ U"}, 0, 0, api.OK}, {[]string{"A:THEOREM T == 1 = 1;V == U"}, 0, 1, api.ErrMissing}, {[]string{"A:THEOREM T == T"}, 0, 0, api.ErrMissing}, {[]string{"A:CONSTANTS c, G(_);F(H(_)) == H(c);T == F(G)"}, 0, 0, api.OK},
		{[]string{"M:LOCAL INSTANCE Sequences;T == Len(<<>>)", "N:EXTENDS M;U == Len(<<>>)"}, 1, 0, api.ErrMissing},
	} {
		p, err := CheckProgram(modules(t, c.l...))
		if p != (api.ScopePlace{Module: c.module, Unit: c.unit}) || err != c.err {
			t.Errorf("%d %q: %v %d", i, c.l, p, err)
		}
	}
	if p, err := CheckProgram(slices.Repeat(modules(t, "M:T == 1"), 2)); err != api.ErrExists || p != (api.ScopePlace{Module: 1}) {
		t.Error(p, err)
	}
	if _, err := CheckProgram(nil); err != api.ErrEmpty {
		t.Error(err)
	}
	if _, err := CheckProgram(make([]api.Module, 13)); err != api.ErrLarge {
		t.Error(err)
	}
	if p, err := CheckProgram([]api.Module{{Name: "M"}, {Name: "N", Units: []api.Unit{{Kind: 8}, {Kind: 9}}}}); err != api.ErrKind || p != (api.ScopePlace{Module: 1, Unit: 1}) {
		t.Error(p, err)
	}
}

func TestManyVisible(t *testing.T) {
	many := func(name string, n int) api.Module {
		m := api.Module{Name: name}
		for i := range n {
			if i%50 == 0 {
				m.Units = append(m.Units, api.Unit{Kind: api.UnitVariables})
			}
			u := &m.Units[len(m.Units)-1]
			u.Names = append(u.Names, name+strconv.Itoa(i))
		}
		return m
	}
	if _, err := CheckProgram([]api.Module{many("M", 150)}); err != api.OK {
		t.Error(err)
	}
	if p, err := CheckProgram([]api.Module{many("M", 151)}); err != api.ErrLarge || p.Unit != 3 {
		t.Error(p, err)
	}
	m := api.Module{Name: "Z", Extends: []string{"M", "N"}}
	if p, err := CheckProgram([]api.Module{many("M", 100), many("N", 51), m}); err != api.ErrLarge || p != (api.ScopePlace{Module: 2}) {
		t.Error(p, err)
	}
}

func TestOrderOf(t *testing.T) {
	l := modules(t, "A:EXTENDS C", "B:T == 1", "C:"+within+"X ----;EXTENDS D;====", "D:V == 1", "E:INSTANCE B")
	if o, err := OrderOf(l); !slices.Equal(o, []int{1, 3, 2, 0, 4}) || err != api.OK {
		t.Errorf("%v %d", o, err)
	}
	if o, err := OrderOf(modules(t, "A:T == zz")); !slices.Equal(o, []int{0}) || err != api.OK {
		t.Errorf("%v %d", o, err)
	}
	if _, err := OrderOf(modules(t, "A:EXTENDS B")); err != api.ErrMissing {
		t.Error(err)
	}
}

func TestNames(t *testing.T) {
	l := modules(t, "M:EXTENDS FiniteSets;CONSTANTS c, D(_, _);VARIABLE x;LOCAL L == 1;F(a, B(_)) == a;THEOREM T == x",
		"N:S(a, b) == a;VARIABLE y;I(p) == INSTANCE M WITH c <- p, x <- y, D <- S;RECURSIVE R(_);R(a) == a;LOCAL J == 1",
		"O:VARIABLE x;CONSTANT c;D(a, b) == 1;INSTANCE M;"+within+"In ----;W == Cardinality({});====;LOCAL INSTANCE In;K == INSTANCE In")
	for module, want := range []string{
		"Cardinality@FiniteSets.9,0 D@M.0,0,0 F@M.3,0,1 IsFiniteSet@FiniteSets.9,0 T@M.5 c@M.0 x@M.1",
		"I!Cardinality@N.6,0,0 I!F@N.6,0,0,1 I!IsFiniteSet@N.6,0,0 I!T@N.6,0 R@N.3,0 S@N.3,0,0 y@N.1",
		"Cardinality@O.6,0 D@O.3,0,0 F@O.6,0,1 IsFiniteSet@O.6,0 K!W@O.6 T@O.6 c@O.0 x@O.1",
	} {
		if g, err := GivenBy(l, module); show(g) != want || err != api.OK {
			t.Errorf("%d: %s %d", module, show(g), err)
		}
	}
	for _, m := range []int{-1, 3} {
		if _, err := GivenBy(l, m); err != api.ErrMissing {
			t.Error(err)
		}
	}
	for place, want := range map[api.ScopePlace]string{
		{Module: 1}:          "",
		{Module: 1, Unit: 2}: "S@N.3,0,0 y@N.1",
		{Module: 0, Unit: 4}: "Cardinality@FiniteSets.9,0 D@M.0,0,0 F@M.3,0,1 IsFiniteSet@FiniteSets.9,0 L@M.3 c@M.0 x@M.1",
		{Module: 2, Unit: 6}: "Cardinality@O.6,0 D@O.3,0,0 F@O.6,0,1 IsFiniteSet@O.6,0 T@O.6 W@O.6 c@O.0 x@O.1",
	} {
		g, err := VisibleIn(l, place)
		if show(g) != want || err != api.OK {
			t.Errorf("%v: %s %d", place, show(g), err)
		}
	}
	for _, place := range []api.ScopePlace{{Module: -1}, {Module: 3}, {Unit: -1}, {Unit: 6}, {Module: 1, Unit: 7}} {
		if _, err := VisibleIn(l, place); err != api.ErrMissing {
			t.Errorf("%v: %d", place, err)
		}
		if _, err := UsedBy(l, place); err != api.ErrMissing {
			t.Errorf("%v: used %d", place, err)
		}
	}
	if s, err := Resolve(l, api.ScopePlace{Module: 1, Unit: 3}, "I!F"); show([]api.ScopeName{s}) != "I!F@N.6,0,0,1" || err != api.OK {
		t.Errorf("%v %d", s, err)
	}
	for name, want := range map[string]api.Errno{"I!x": api.ErrMissing, "I": api.ErrMissing, "1": api.ErrName, "a!b!c": api.ErrName, "TRUE": api.ErrName, "y": api.OK} {
		if _, err := Resolve(l, api.ScopePlace{Module: 1, Unit: 3}, name); err != want {
			t.Errorf("%s: %d", name, err)
		}
	}
	open := modules(t, "M:RECURSIVE A(_, _), B;C == B;A(a, b) == B;B == A(1, 2)")
	if s, err := Resolve(open, api.ScopePlace{Unit: 1}, "A"); show([]api.ScopeName{s}) != "A@M.3,0,0" || err != api.OK {
		t.Errorf("%v %d", s, err)
	}
	g, _ := GivenBy(l, 0)
	g[1].Params[0] = 7
	if again, _ := GivenBy(l, 0); again[1].Params[0] != 0 {
		t.Error("memory is shared")
	}
}

func TestUses(t *testing.T) {
	l := modules(t, "M:VARIABLE x;F(a) == a + x", "N:EXTENDS M;G == F(1);H(p) == \\A q \\in x : p = q /\\ G;K == H(1) LOCAL L == K;RECURSIVE Z;Z == Z", "O:VARIABLE u;I(v) == INSTANCE M WITH x <- u + v;J == I!F(1, u)")
	for place, want := range map[api.ScopePlace]string{{Unit: 0}: "", {Unit: 1}: "x", {Module: 1}: "F", {Module: 1, Unit: 1}: "G x", {Module: 2, Unit: 1}: "u", {Module: 2, Unit: 2}: "I!F u"} {
		if got, err := UsedBy(l, place); strings.Join(got, " ") != want || err != api.OK {
			t.Errorf("%v: %v %d", place, got, err)
		}
	}
	if _, err := UsedBy(l, api.ScopePlace{Unit: 2}); err != api.ErrMissing {
		t.Error(err)
	}
	for name, want := range map[string]string{"G": "", "H": "G", "K": "G H", "L": "G H K", "Z": "Z"} {
		if got, err := ReachedFrom(l, 1, name); strings.Join(got, " ") != want || err != api.OK {
			t.Errorf("%s: %v %d", name, got, err)
		}
	}
	for _, name := range []string{"F", "x", "zz"} {
		if _, err := ReachedFrom(l, 1, name); err != api.ErrMissing {
			t.Errorf("%s: %d", name, err)
		}
	}
	if _, err := ReachedFrom(l, 3, "G"); err != api.ErrMissing {
		t.Error(err)
	}
	broken := modules(t, "A:T == zz")
	_, e1 := GivenBy(broken, 0)
	_, e2 := VisibleIn(broken, api.ScopePlace{})
	_, e3 := UsedBy(broken, api.ScopePlace{})
	_, e4 := ReachedFrom(broken, 0, "T")
	_, e5 := Resolve(broken, api.ScopePlace{}, "T")
	if !slices.Equal([]api.Errno{e1, e2, e3, e4, e5}, slices.Repeat([]api.Errno{api.ErrMissing}, 5)) {
		t.Error(e1, e2, e3, e4, e5)
	}
}

func TestConsequences(t *testing.T) {
	l := modules(t, "M:EXTENDS Bags;VARIABLE x;F(a) == a + x", "N:EXTENDS M;G == F(1)", "O:EXTENDS N;VARIABLE y;I == INSTANCE N WITH x <- y;J == I!G")
	back := []api.Module{l[2], l[1], l[0]}
	for i := range l {
		g, e1 := GivenBy(l, i)
		h, e2 := GivenBy(back, 2-i)
		if !reflect.DeepEqual(g, h) || e1 != api.OK || e2 != api.OK {
			t.Errorf("%d: %v %v", i, g, h)
		}
		for u := range l[i].Units {
			used, _ := UsedBy(l, api.ScopePlace{Module: i, Unit: u})
			for _, name := range used {
				if _, err := Resolve(l, api.ScopePlace{Module: i, Unit: u}, name); err != api.OK {
					t.Errorf("%s: %d", name, err)
				}
			}
		}
	}
	given, _ := GivenBy(l, 0)
	end, _ := VisibleIn(l, api.ScopePlace{Module: 1, Unit: 1})
	for _, g := range given {
		if !slices.ContainsFunc(end, func(s api.ScopeName) bool { return oneOrigin(g, s) }) {
			t.Errorf("%v", g)
		}
	}
}

func TestStandardOperators(t *testing.T) {
	l := StandardOperators()
	if len(l) != 16 || l[0] != (api.Standard{Module: "Sequences", Name: "Len", Arity: 1}) || l[15] != (api.Standard{Module: "TLC", Name: "Assert", Arity: 2}) || l[4].Arity != 3 || l[7].Arity != 0 {
		t.Errorf("%v", l)
	}
}
