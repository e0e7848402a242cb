package units

import (
	"reflect"
	"slices"
	"strings"
	"testing"

	"stutter/api"
	"stutter/exprs"
)

func place(line, column int) api.TextPlace { return api.TextPlace{Line: line, Column: column} }

func split(s string) []string { return strings.Split(s, "\n") }

func module(t *testing.T, s string) api.Module {
	t.Helper()
	m, p, err := ModuleOf(split(s))
	if err != api.OK {
		t.Fatalf("%s: %v %d", s, p, err)
	}
	return m
}

const sample = `---- MODULE M ----
EXTENDS Integers, Sequences
CONSTANT C, F(_, _)
VARIABLES x, y
RECURSIVE G(_), H
LOCAL G(a) == IF a = 0 THEN 1 ELSE G(a - 1) H == /\ x
                                                 /\ y
ASSUME N == C = 1 AXIOM C > 0
LEMMA x = x
THEOREM T == x
INSTANCE P
LOCAL INSTANCE P WITH a <- 1
I(p, q) == INSTANCE Q WITH a <- p + 1, b <- \A z \in q : z, c <- 3
LOCAL J == INSTANCE Q
---- ----- MODULE Inner ---------
K(a, B(_, _)) == B(a, a)
====
------
==============`

const printed = `---- MODULE M ----
EXTENDS Integers, Sequences
CONSTANTS C, F(_, _)
VARIABLES x, y
RECURSIVE G(_), H
LOCAL G(a) == IF a = 0 THEN 1 ELSE G(a - 1)
H ==
    /\ x
    /\ y
ASSUME N == C = 1
ASSUME C > 0
THEOREM x = x
THEOREM T == x
INSTANCE P
LOCAL INSTANCE P WITH a <- 1
I(p, q) == INSTANCE Q WITH a <- p + 1, b <- \A z \in q : z, c <- 3
LOCAL J == INSTANCE Q
----
---- MODULE Inner ----
K(a, B(_, _)) == B(a, a)
====
----
====`

func TestModuleOf(t *testing.T) {
	m := module(t, sample)
	l, err := LinesOf(m)
	if err != api.OK || strings.Join(l, "\n") != printed {
		t.Errorf("%s", strings.Join(l, "\n"))
	}
	if again := module(t, printed); !reflect.DeepEqual(m, again) {
		t.Errorf("%v\n%v", m, again)
	}
	kinds := []int{}
	for _, u := range m.Units {
		kinds = append(kinds, u.Kind)
	}
	if !slices.Equal(kinds, []int{0, 1, 2, 3, 3, 4, 4, 5, 5, 6, 6, 6, 6, 8, 7, 8}) {
		t.Errorf("%v", kinds)
	}
	if d := m.Units[3].Def; !d.Local || !d.Recursive || d.Name != "G" || !slices.Equal(d.Params, []string{"a"}) || !slices.Equal(d.Arities, []int{0}) {
		t.Errorf("%v", d)
	}
	if d := m.Units[14].Inner[0].Units[0].Def; d.Recursive || !slices.Equal(d.Arities, []int{0, 2}) {
		t.Errorf("%v", d)
	}
	d, err := DeclaredIn(m)
	want := []api.Declared{{Name: "C"}, {Name: "F", Arity: 2}, {Name: "x", Unit: 1, Kind: 1}, {Name: "y", Unit: 1, Kind: 1}, {Name: "G", Unit: 3, Kind: 3, Arity: 1, Local: true}, {Name: "H", Unit: 4, Kind: 3}, {Name: "N", Unit: 5, Kind: 4}, {Name: "T", Unit: 8, Kind: 5},
		{Name: "I", Unit: 11, Kind: 6, Arity: 2}, {Name: "J", Unit: 12, Kind: 6, Local: true}}
	if !slices.Equal(d, want) || err != api.OK {
		t.Errorf("%v %d", d, err)
	}
	if d, _ := DeclaredIn(api.Module{Name: "M", Units: []api.Unit{defined("A", "p", "q", "r")}}); len(d) != 1 || d[0].Arity != 3 {
		t.Errorf("%v", d)
	}
	spans, err := UnitsAt(split(sample))
	if err != api.OK || len(spans) != 16 || spans[3] != (api.TextSpan{From: place(5, 0), To: place(5, 43)}) || spans[4] != (api.TextSpan{From: place(5, 44), To: place(6, 53)}) || spans[14] != (api.TextSpan{From: place(14, 5), To: place(16, 4)}) {
		t.Errorf("%v %d", spans, err)
	}
}

func TestTextErrors(t *testing.T) {
	head, end := "---- MODULE M ----\n", "\n===="
	for _, c := range []struct {
		s   string
		p   api.TextPlace
		err api.Errno
	}{
		{"", place(1, 0), api.ErrEnd}, {"x", place(0, 0), api.ErrSyntax}, {"---- MODULE", place(1, 0), api.ErrEnd}, {"==== MODULE M ----", place(0, 0), api.ErrSyntax}, {"---- MODULE STRING ----", place(0, 12), api.ErrSyntax},
		{head, place(2, 0), api.ErrEnd}, {head + "(* a", place(1, 0), api.ErrOpen}, {head + "F == 1 (a)" + end, place(1, 7), api.ErrSyntax}, {head + "F(a, ) == x" + end, place(1, 5), api.ErrSyntax}, {head + "F == x /\\ y \\/ z" + end, place(1, 12), api.ErrClash},
		{head + "F == 1 @" + end, place(1, 7), api.ErrSyntax}, {head + "G == 1 F == F(@)" + end, place(1, 12), api.ErrState}, {head + "F == /\\ x =\nG == 1" + end, place(2, 0), api.OK}, {head + "F == x +" + end, place(2, 0), api.ErrSyntax}, {head + "F == x +", place(2, 0), api.ErrEnd}, {head + "F == /\\ x =\n     y" + end, place(2, 5), api.ErrColumn},
		{head + end + " x", place(2, 5), api.ErrSyntax}, {head + "LOCAL ASSUME x" + end, place(1, 6), api.ErrSyntax}, {head + "COROLLARY x" + end, place(1, 0), api.ErrSyntax}, {head + "I(G(_)) == INSTANCE M" + end, place(1, 11), api.ErrSyntax}, {head + "INSTANCE M WITH a = 1" + end, place(1, 18), api.ErrSyntax},
		{head + "CONSTANT C(a)" + end, place(1, 11), api.ErrSyntax}, {head + "F == 1 F == 2" + end, place(0, 0), api.ErrExists}, {head + "VARIABLE x, x" + end, place(0, 0), api.ErrExists}, {head + "EXTENDS A, A" + end, place(0, 0), api.ErrDouble}, {head + "EXTENDS M" + end, place(0, 0), api.ErrDouble},
		{head + "F(a, a) == 1" + end, place(0, 0), api.ErrDouble}, {head + "LEMMA BOOLEAN == x" + end, place(1, 14), api.ErrSyntax}, {head + strings.Repeat("---- ", 20) + strings.Repeat("\n---- ", 20) + end, place(0, 0), api.OK}, {head + strings.Repeat("---- ", 20) + strings.Repeat("\n---- ", 21) + end, place(0, 0), api.ErrLarge},
		{head + "EXTENDS A" + end + end, place(3, 0), api.ErrSyntax}, {head + "---- MODULE A ----\n---- MODULE B ----\n====" + end + end, place(0, 0), api.OK}, {head + "---- MODULE A ----\n---- MODULE B ----\n---- MODULE C ----\n====" + end + end + end, place(0, 0), api.ErrLarge},
		{head + "F == 1\n---- MODULE A ----\nF == 2\nA == F" + end + end, place(0, 0), api.OK}, {head + "---- MODULE A ----\nF == 1 F == 2" + end + end, place(0, 0), api.ErrExists},
	} {
		_, p, err := ModuleOf(split(c.s))
		if c.s == head+"F == /\\ x =\nG == 1"+end {
			if err != api.ErrColumn || p != place(2, 0) {
				t.Errorf("%q: %v %d", c.s, p, err)
			}
			continue
		}
		if p != c.p || err != c.err {
			t.Errorf("%q: %v %d", c.s, p, err)
		}
		if _, err := UnitsAt(split(c.s)); err != c.err {
			t.Errorf("%q: units %d", c.s, err)
		}
	}
}

func TestModulesOf(t *testing.T) {
	one := func(s string) string { return "---- MODULE " + s + " ----\n====\n" }
	for _, c := range []struct {
		s   string
		n   int
		p   api.TextPlace
		err api.Errno
	}{
		{one("A") + one("B"), 2, place(0, 0), api.OK}, {"", 0, place(0, 0), api.ErrEmpty}, {"\\* nothing", 0, place(0, 0), api.ErrEmpty}, {one("A") + one("B") + one("A"), 0, place(4, 0), api.ErrExists}, {one("A") + "x", 0, place(2, 0), api.ErrSyntax},
		{one("A") + "---- MODULE B ---- EXTENDS B ====" + one("A"), 0, place(2, 0), api.ErrDouble}, {one("A") + "----", 0, place(3, 0), api.ErrEnd},
		{strings.Repeat(one("A"), 13), 0, place(0, 0), api.ErrLarge}, {strings.Repeat(one("A"), 12), 0, place(2, 0), api.ErrExists},
	} {
		l, p, err := ModulesOf(split(c.s))
		if len(l) != c.n || p != c.p || err != c.err {
			t.Errorf("%q: %d %v %d", c.s, len(l), p, err)
		}
	}
	if _, p, err := ModuleOf(split(one("A") + one("B"))); p != place(2, 0) || err != api.ErrSyntax {
		t.Errorf("%v %d", p, err)
	}
}

func defined(name string, params ...string) api.Unit {
	return api.Unit{Kind: api.UnitDefinition, Def: api.Def{Name: name, Params: params, Arities: make([]int, len(params)), Body: exprs.Name("e")}}
}

func TestCheckModule(t *testing.T) {
	constants := func(n int) api.Unit {
		u := api.Unit{Kind: api.UnitConstants}
		for i := range n {
			u.Names = append(u.Names, "c"+string(rune('a'+i/26))+string(rune('a'+i%26)))
			u.Arities = append(u.Arities, 0)
		}
		return u
	}
	inner := func(m api.Module) api.Unit { return api.Unit{Kind: api.UnitModule, Inner: []api.Module{m}} }
	instance := func(x api.Instance) api.Unit { return api.Unit{Kind: api.UnitInstance, Instance: x} }
	e := exprs.Name("e")
	bad := exprs.Name("1")
	ok := api.Unit{Kind: api.UnitRule}
	changed := func(f func(*api.Unit), u api.Unit) api.Unit { f(&u); return u }
	for i, c := range []struct {
		u   api.Unit
		err api.Errno
	}{
		{ok, api.OK}, {api.Unit{Kind: -1}, api.ErrKind}, {api.Unit{Kind: api.UnitKinds}, api.ErrKind}, {changed(func(u *api.Unit) { u.Name = "x" }, ok), api.ErrForm}, {changed(func(u *api.Unit) { u.Expr = e }, constants(1)), api.ErrForm},
		{changed(func(u *api.Unit) { u.Def.Local = true }, constants(1)), api.ErrForm}, {changed(func(u *api.Unit) { u.Def.Recursive = true }, constants(1)), api.ErrForm}, {changed(func(u *api.Unit) { u.Instance.Local = true }, constants(1)), api.ErrForm}, {changed(func(u *api.Unit) { u.Inner = make([]api.Module, 1) }, constants(1)), api.ErrForm},
		{api.Unit{Kind: api.UnitVariables, Names: []string{"x"}, Arities: []int{0}}, api.ErrForm}, {api.Unit{Kind: api.UnitVariables}, api.ErrShape}, {api.Unit{Kind: api.UnitConstants}, api.ErrShape}, {api.Unit{Kind: api.UnitRecursive}, api.ErrShape}, {api.Unit{Kind: api.UnitConstants, Names: []string{"x"}}, api.ErrShape},
		{constants(60), api.OK}, {constants(61), api.ErrLarge}, {changed(func(u *api.Unit) { u.Arities[0] = 5 }, constants(2)), api.ErrRange}, {changed(func(u *api.Unit) { u.Arities[1] = -1 }, constants(2)), api.ErrRange}, {changed(func(u *api.Unit) { u.Arities[1] = 4 }, constants(2)), api.OK}, {changed(func(u *api.Unit) { u.Names[0] = "STRING" }, constants(1)), api.ErrName},
		{changed(func(u *api.Unit) { u.Names[1] = u.Names[0] }, constants(2)), api.ErrExists}, {defined("D", "a", "b", "c", "d"), api.OK}, {defined("D", "a", "b", "c", "d", "f"), api.ErrLarge}, {changed(func(u *api.Unit) { u.Def.Arities = nil }, defined("D", "a")), api.ErrShape}, {defined("IF"), api.ErrName}, {defined("D", "a", "1"), api.ErrName}, {defined("D", "a", "a"), api.ErrDouble},
		{changed(func(u *api.Unit) { u.Def.Arities[0] = 5 }, defined("D", "a")), api.ErrRange}, {changed(func(u *api.Unit) { u.Def.Body = bad }, defined("D", "a")), api.ErrName}, {changed(func(u *api.Unit) { u.Def.Body = nil }, defined("D", "a")), api.ErrEmpty}, {changed(func(u *api.Unit) { u.Def.Recursive = true }, defined("D", "a")), api.ErrForm},
		{api.Unit{Kind: api.UnitAssume, Expr: e}, api.OK}, {api.Unit{Kind: api.UnitAssume, Expr: bad}, api.ErrName}, {api.Unit{Kind: api.UnitTheorem}, api.ErrEmpty}, {api.Unit{Kind: api.UnitTheorem, Name: "1", Expr: e}, api.ErrName}, {api.Unit{Kind: api.UnitTheorem, Name: "old", Expr: e}, api.ErrExists},
		{instance(api.Instance{Module: "P"}), api.OK}, {instance(api.Instance{}), api.ErrName}, {instance(api.Instance{Module: "P", Params: []string{"a"}}), api.ErrShape}, {instance(api.Instance{Name: "I", Module: "P", Params: []string{"a", "b", "c", "d", "f"}}), api.ErrLarge}, {instance(api.Instance{Name: "I", Module: "P", Params: []string{"a", "a"}}), api.ErrDouble},
		{instance(api.Instance{Module: "P", Names: []string{"a"}}), api.ErrShape}, {instance(api.Instance{Module: "P", Names: []string{"a", "a"}, With: []api.Expr{e, e}}), api.ErrDouble}, {instance(api.Instance{Module: "P", Names: []string{"a", "b"}, With: []api.Expr{e, nil}}), api.ErrEmpty}, {instance(api.Instance{Name: "old", Module: "P"}), api.ErrExists},
		{instance(api.Instance{Module: "P", Names: constants(61).Names, With: make([]api.Expr, 61)}), api.ErrLarge}, {api.Unit{Kind: api.UnitModule}, api.ErrShape}, {inner(api.Module{Name: "A"}), api.OK}, {inner(api.Module{}), api.ErrName}, {inner(api.Module{Name: "A", Units: []api.Unit{inner(api.Module{Name: "B"})}}), api.OK},
		{inner(api.Module{Name: "A", Units: []api.Unit{inner(api.Module{Name: "B", Units: []api.Unit{inner(api.Module{Name: "C"})}})}}), api.ErrLarge}, {api.Unit{Kind: api.UnitRecursive, Names: []string{"old"}, Arities: []int{0}}, api.OK}, {defined("old"), api.ErrExists}, {defined("rec"), api.ErrForm}, {changed(func(u *api.Unit) { u.Def.Recursive = true }, defined("rec")), api.OK},
	} {
		m := api.Module{Name: "M", Units: []api.Unit{ok, {Kind: api.UnitVariables, Names: []string{"old"}}, {Kind: api.UnitRecursive, Names: []string{"rec"}, Arities: []int{0}}, c.u}}
		want := 3
		if c.err == api.OK {
			want = 0
		}
		if at, err := CheckModule(m); err != c.err || at != want {
			t.Errorf("%d: %d %d", i, at, err)
		}
		if _, err := DeclaredIn(m); err != c.err {
			t.Errorf("%d: declared %d", i, err)
		}
		if _, err := LinesOf(m); err != c.err && (c.err != api.OK || i != 14) {
			t.Errorf("%d: lines %d", i, err)
		}
	}
	for i, c := range []struct {
		m   api.Module
		err api.Errno
	}{{api.Module{}, api.ErrName}, {api.Module{Name: "M"}, api.OK}, {api.Module{Name: "M", Extends: []string{"1"}}, api.ErrName}, {api.Module{Name: "M", Extends: []string{"A", "A"}}, api.ErrDouble}, {api.Module{Name: "M", Extends: []string{"M"}}, api.ErrDouble},
		{api.Module{Name: "M", Extends: constants(61).Names}, api.ErrLarge}, {api.Module{Name: "M", Extends: constants(60).Names}, api.OK}, {api.Module{Name: "M", Units: slices.Repeat([]api.Unit{ok}, 41)}, api.ErrLarge}, {api.Module{Name: "M", Units: slices.Repeat([]api.Unit{ok}, 40)}, api.OK}} {
		if at, err := CheckModule(c.m); at != 0 || err != c.err {
			t.Errorf("%d: %d %d", i, at, err)
		}
	}
	m := inner(api.Module{Name: "A", Units: make([]api.Unit, 40)})
	for i := range m.Inner[0].Units {
		m.Inner[0].Units[i] = m // modules within one another without an end
	}
	if _, err := CheckModule(m.Inner[0]); err != api.ErrLarge {
		t.Error(err)
	}
}

func TestLinesOf(t *testing.T) {
	long := strings.Repeat("a", 24)
	m := module(t, "---- MODULE M ----\nF == "+long+" + "+long+" + "+long+" + "+long[:15]+"\nG == "+long+" + "+long+" + "+long+" + "+long[:14]+"\nI == INSTANCE P WITH a <- "+long+", b <- "+long+", cc <- "+long+"\nI2 == INSTANCE P WITH a <- "+long+", b <- "+long+", cc <- "+long+"\nASSUME /\\ p\n       /\\ q\n====")
	l, err := LinesOf(m)
	sum := long + " + " + long + " + " + long + " + "
	want := []string{"---- MODULE M ----", "F ==", "    " + sum + long[:15], "G == " + sum + long[:14], "I == INSTANCE P WITH", "    a <- " + long + ",", "    b <- " + long + ",", "    cc <- " + long}
	if err != api.OK || !slices.Equal(l[:8], want) {
		t.Errorf("%q %d", l, err)
	}
	i := slices.IndexFunc(l, func(s string) bool { return strings.HasPrefix(s, "ASSUME") })
	if !slices.Equal(l[i:], []string{"ASSUME", `    /\ p`, `    /\ q`, "===="}) {
		t.Errorf("%q", l[i:])
	}
	again, _, err := ModuleOf(l)
	if err != api.OK || !reflect.DeepEqual(m, again) {
		t.Errorf("%q %d", l, err)
	}
	x := api.Unit{Kind: api.UnitInstance, Instance: api.Instance{Module: "P", Names: []string{"a", "b"}, With: []api.Expr{exprs.Name(long), exprs.Apply(long, exprs.Name(long[:17]), exprs.Name(long[:1]))}}}
	line := "INSTANCE P WITH a <- " + long + ", b <- " + long + "(" + long[:17] + ", a)"
	if l, _ = LinesOf(api.Module{Name: "M", Units: []api.Unit{x}}); l[1] != line || len(line) != 98 {
		t.Errorf("%q %d", l, len(line))
	}
	x.Instance.Local = true
	if l, _ = LinesOf(api.Module{Name: "M", Units: []api.Unit{x}}); len(l) != 5 || l[1] != "LOCAL INSTANCE P WITH" || l[2] != "    a <- "+long+"," {
		t.Errorf("%q", l)
	}
	var names []string
	for i := range 30 {
		names = append(names, long[:20]+string(rune('a'+i/10))+string(rune('a'+i%10)))
	}
	if _, err := LinesOf(api.Module{Name: "M", Units: []api.Unit{{Kind: api.UnitVariables, Names: names}}}); err != api.ErrLarge {
		t.Error(err)
	}
}
