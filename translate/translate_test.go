package translate

import (
	"slices"
	"strings"
	"testing"

	"stutter/action"
	"stutter/api"
	"stutter/pluscal"
	"stutter/process"
	"stutter/tree"
	"stutter/value"
	"stutter/values"
)

func program(t *testing.T, s string) api.PlusProgram {
	t.Helper()
	a, p, err := pluscal.ParseAlgorithm(strings.Split(strings.ReplaceAll("--"+s+" end algorithm", "; ", ";\n"), "\n"))
	if err != api.OK {
		t.Fatalf("%s: %v %d", s, p, err)
	}
	return api.PlusProgram{Algorithm: a, Constants: []api.Binding{{Name: "c", Value: values.Int(2)}}}
}

const counter = "algorithm C variables x = 0; begin A: while x < 2 do x := x + 1; end while;"

var programs = []string{
	counter,
	"algorithm C variables x = 0; process P \\in {1, 2} begin A: either x := self; or skip; end either; end process;",
	"algorithm C variables x = 0; procedure inc(n) variables m = n; begin I: x := x + m; return; end procedure; begin A: call inc(5); B: skip;",
	"algorithm C variables x \\in {1, 2}, f = <<5, 6>>; begin A: f[1] := f[2] || f[2] := x; x := f[1]; B: if x = 5 then goto A; else x := c; end if;",
	"algorithm C variables x = 0; define D(u) == x + u E == D(c) end define; begin A: x := E; D1: with y \\in {E, 1} do x := y; end with; await x > 0; B: assert E > 0; goto B;",
	"algorithm C variables x = 0; fair process p \\in {1, 2} variables l \\in {self, 5}, m = l; begin A: l := l + x; B: x := l + m; end process; fair strong process q = 3 variables k \\in {self, 4}; begin Q: await x > 3; k := x; end process;",
	"algorithm C variables r = [a |-> 1, b |-> <<1, 2>>]; begin A: r.a := 7; B: r[\"a\"] := r.a + 1; D: skip;",
	"algorithm C variables g = [u \\in {1, 2}, v \\in {3} |-> u]; begin A: g[1, 3] := 9; B: while TRUE do either await g[1, 3] = 9; g[1, 3] := 8; or goto D; end either; end while; D: skip;",
	"algorithm C procedure P(a) begin I: if a > 0 then J: call P(a - 1); end if; K: return; end procedure; process p \\in {1, 2} variables l = 0; begin A: call P(self); B: l := self; end process;",
	"algorithm C variables x; begin A: with y = 1, z \\in {2, 3} do x := y + z; end with; B: if x = 3 then skip; end if; x := 0;",
	"algorithm C process p \\in {\"a\", \"b\"} variables l; begin A: l := self; end process;",
}

func TestSpecs(t *testing.T) {
	for _, s := range programs {
		p := program(t, s)
		spec, err := SpecOf(p)
		if err != api.OK {
			t.Errorf("%s: %d", s, err)
			continue
		}
		vars, _ := process.VarsOf(p)
		if _, err := action.CheckSpec(spec); err != api.OK || !slices.Equal(vars, spec.Vars) || spec.Constants[1].Name != "defaultInitValue" {
			t.Errorf("%s: %d", s, err)
		}
		first, at, e1 := action.FirstStates(spec)
		want, e2 := process.FirstStates(p)
		if !slices.EqualFunc(first, want, values.SameState) || e1 != api.OK || e2 != api.OK {
			t.Errorf("%s: first %v %v %d %d %d", s, first, want, at, e1, e2)
		}
		actions, err := ActionsOf(p)
		labels, _ := pluscal.LabelsOf(p.Algorithm)
		if len(actions) != len(labels) || err != api.OK {
			t.Errorf("%s: %d %d", s, len(actions), err)
		}
		found := want
		for i := 0; i < len(found) && i < 50; i++ {
			if n, err := CheckStates(p, spec, found[i:i+1]); n != 1 || err != api.OK {
				next, at, e := action.Successors(spec, found[i], spec.Next)
				steps, _ := process.StepsFrom(p, found[i])
				t.Fatalf("%s at %v: %d; %v %d %d; %v", s, found[i], err, next, at, e, steps)
			}
			steps, _ := process.StepsFrom(p, found[i])
			checkLabels(t, s, spec, actions, labels, found[i], steps)
			for _, step := range steps {
				if !slices.ContainsFunc(found, func(x api.State) bool { return values.SameState(x, step.To) }) {
					found = append(found, step.To)
				}
			}
		}
	}
}

// checkLabels looks whether the actions of labels have the steps that begin at them.
func checkLabels(t *testing.T, s string, spec api.Spec, actions []api.LabelAction, labels []string, x api.State, steps []api.PlusStep) {
	t.Helper()
	for i, a := range actions {
		var want []api.State
		for _, step := range steps {
			if step.Label == a.Label {
				want = append(want, step.To)
			}
		}
		slices.SortFunc(want, values.CompareStates)
		want = slices.CompactFunc(want, values.SameState)
		next, at, err := action.Successors(spec, x, a.Action)
		if a.Label != labels[i] || !slices.EqualFunc(next, want, values.SameState) || err != api.OK {
			t.Errorf("%s: %s at %v: %v %v %d %d", s, a.Label, x, next, want, at, err)
		}
	}
}

// deep is a set of a set .. of a value, so many times.
func deep(v api.Value, times int) api.Value {
	for range times {
		v = values.Set(v)
	}
	return v
}

// TestManyBeginnings has processes whose variables begin in as many ways as are permitted, by sets that are those of the identity.
func TestManyBeginnings(t *testing.T) {
	for _, c := range []struct{ members, set string }{{"1 .. 6", "{<<self, 1>>, <<self, 2>>}"}, {"1 .. 4", "{<<self, 1>>, <<self, 2>>, self}"}, {"1 .. 2", "self .. self + 9"}, {"{\"a\"}", "{self} \\cup 1 .. 99"}, {"1 .. 6", "self .. 3"}, {"1 .. 5", "1 .. (self % 3) + 1"}} {
		p := program(t, "algorithm C process P \\in "+c.members+" variables v \\in "+c.set+"; begin A: skip; end process;")
		spec, err := SpecOf(p)
		want, e := process.FirstStates(p)
		got, at, e2 := action.FirstStates(spec)
		if err != api.OK || e != api.OK || e2 != api.OK || !slices.EqualFunc(got, want, values.SameState) {
			t.Errorf("%v: %d; %d and %d states, %d, %d at %d", c, err, len(want), len(got), e, e2, at)
		}
	}
}

// TestManyParts has sets of identities, and of values, that are made of as many sets as there may be.
func TestManyParts(t *testing.T) {
	p := program(t, "algorithm C define D1 == {1} \\cup {2} D2 == D1 \\cup D1 \\cup D1 D3 == D2 \\cup D2 \\cup D2 D4 == D2 \\cup {3} end define; process P \\in D3 variables v \\in D3; begin A: v := self; end process; process Q \\in D4 \\ D1 variables w \\in {self, 4} \\cap D4; begin B: skip; end process;")
	spec, err := SpecOf(p)
	want, e := process.FirstStates(p)
	got, at, e2 := action.FirstStates(spec)
	if err != api.OK || e != api.OK || e2 != api.OK || !slices.EqualFunc(got, want, values.SameState) {
		t.Fatalf("%d; %d and %d states, %d, %d at %d", err, len(want), len(got), e, e2, at)
	}
	for _, x := range want {
		if n, err := CheckStates(p, spec, []api.State{x}); n != 1 || err != api.OK {
			t.Errorf("%v: %d", x, err)
		}
	}
}

// TestIdentities has identities of all kinds, small and great, whose variables begin with sets that are the same for all, or depend on the identity, on each other, and may be empty.
func TestIdentities(t *testing.T) {
	var numbers []api.Value
	for n := range 60 {
		numbers = append(numbers, values.Int(n))
	}
	m1, m2 := values.Model("m1"), values.Model("m2")
	function, _ := values.Func([]api.Value{m1, values.Int(1), values.Set(numbers...)}, []api.Value{m1, m1, m1})
	for i, members := range [][]api.Value{
		{m1, m2}, {values.Set(), values.Set(m1)}, {values.Set(numbers...)}, {values.Set(numbers[:30]...), values.Set(numbers...)}, {values.Int(-3), values.String("a \\ \""), m1, values.Set(m2), values.Tuple(m1, m2)}, {deep(m1, 6), deep(values.Int(1), 6)}, {values.Bool(false), values.Tuple(values.Bool(false))}, numbers[:5], {values.Set(numbers[:45]...), values.Set(numbers[:46]...), values.Set(numbers[:47]...)}, {function}, {},
	} {
		for _, vars := range []string{"v \\in {1, 2}", "v \\in {FALSE, self = self}", "v \\in {1, IF self \\in {m} THEN 1 ELSE 2}", "v = 1, w \\in {v, IF self \\in {m} THEN 7 ELSE 8}", "v \\in {x \\in {1} : self \\in {m}}", "v \\in {0, IF self \\in D THEN 0 ELSE 1}, w \\in {v}", "v \\in {z \\in {1} : FALSE}, w \\in {1 \\div 0}", "v \\in {k}, w \\in 1 .. v"} {
			p := program(t, "algorithm C variables k \\in {1, 2}; define D == {y \\in C : y # m} end define; process P \\in C variables "+vars+"; begin A: k := 1; end process; process q = 99 variables u \\in {3, 4}; begin B: skip; end process;")
			p.Constants = []api.Binding{{Name: "C", Value: values.Set(members...)}, {Name: "m", Value: m1}}
			spec, err := SpecOf(p)
			want, e := process.FirstStates(p)
			got, at, e2 := action.FirstStates(spec)
			if err != api.OK || e == api.OK && (e2 != api.OK || !slices.EqualFunc(got, want, values.SameState)) {
				t.Errorf("%d: %s: %d; %d and %d states, %d at %d, %d", i, vars, err, len(want), len(got), e2, at, e)
			}
			for _, x := range want {
				if n, err := CheckStates(p, spec, []api.State{x}); n != 1 || err != api.OK {
					t.Errorf("%d: %s: %v: %d", i, vars, x, err)
				}
			}
		}
	}
}

func TestErrors(t *testing.T) {
	for s, want := range map[string]api.Errno{
		"algorithm C variables x = 0; begin c: skip;": api.ErrRefused, "algorithm C variables x = 0; begin x: skip;": api.ErrRefused, "algorithm C variables x = 0; begin pc: skip;": api.ErrRefused, "algorithm C variables ProcSet = 0; begin A: skip;": api.OK, "algorithm C variables ProcSet = 0; process p = 1 begin A: skip; end process;": api.ErrRefused, "algorithm C begin self: skip;": api.ErrRefused, "algorithm C begin Nat: skip;": api.ErrRefused, "algorithm C begin ProcSet: skip;": api.ErrRefused, "algorithm C variables Int = 0; begin A: skip;": api.ErrRefused, "algorithm C begin A: with Seq = 0 do skip; end with;": api.ErrRefused, "algorithm C begin A: with defaultInitValue = 0 do skip; end with;": api.ErrRefused, "algorithm C define D == \\A self \\in {} : TRUE end define; begin A: skip;": api.ErrRefused, "algorithm C variables x = {self \\in {} : TRUE}; begin A: skip;": api.ErrRefused, "algorithm C define D == 1 end define; begin D: skip;": api.ErrRefused,
	} {
		p := program(t, s)
		_, e1 := SpecOf(p)
		_, e2 := ActionsOf(p)
		_, e3 := FairnessOf(p)
		_, e4 := TerminationOf(p)
		if e1 != want || e2 != want || e3 != want || e4 != want {
			t.Errorf("%s: %d %d %d %d", s, e1, e2, e3, e4)
		}
	}
	p := program(t, counter)
	spec, _ := SpecOf(p)
	broken := p
	broken.Constants = []api.Binding{{Name: "x"}}
	_, e1 := SpecOf(broken)
	_, e2 := CheckStates(broken, api.Spec{}, nil)
	if e1 != api.ErrExists || e2 != api.ErrExists {
		t.Error(e1, e2)
	}
	x := api.State{values.Int(0), values.String("A")}
	other := spec
	other.Vars = []string{"pc", "x"}
	changed := spec
	changed.Next = name("FALSE")
	silly := spec
	silly.Next = name("zz")
	for i, c := range []struct {
		s   api.Spec
		l   []api.State
		at  int
		err api.Errno
	}{{spec, []api.State{x, x}, 2, api.OK}, {api.Spec{}, nil, 0, api.ErrEmpty}, {other, nil, 0, api.ErrShape}, {spec, make([]api.State, 61), 0, api.ErrLarge}, {spec, []api.State{x, nil}, 1, api.ErrShape}, {changed, []api.State{x}, 0, api.ErrProof}, {silly, []api.State{x, x}, 0, api.ErrMissing}} {
		if at, err := CheckStates(p, c.s, c.l); at != c.at || err != c.err {
			t.Errorf("%d: %d %d", i, at, err)
		}
	}
	stuck := program(t, "algorithm C begin A: assert FALSE;")
	spec, _ = SpecOf(stuck)
	if _, err := CheckStates(stuck, spec, []api.State{{values.String("A")}}); err != api.ErrBroken {
		t.Error(err)
	}
}

func TestFairness(t *testing.T) {
	for s, want := range map[string]string{
		strings.Replace(counter, "algorithm", "fair algorithm", 1): "WF_<<x, pc>>(A)", strings.Replace(counter, "algorithm", "fair strong algorithm", 1): "SF_<<x, pc>>(A)", counter: "", "fair algorithm C begin A: skip;": "WF_pc(A)",
		"algorithm C variables x = 0; fair process p \\in {1, 2} begin A: skip; B: skip; end process; fair strong process q = 3 begin Q: skip; end process; process r = 4 begin R: skip; end process;": `\A self \in {1, 2} : WF_<<x, pc>>(A(self) \/ B(self)); SF_<<x, pc>>(\E self \in {3} : Q(self))`,
	} {
		l, err := FairnessOf(program(t, s))
		var got []string
		for _, e := range l {
			x, _ := tree.FormatExpr(e)
			got = append(got, x)
		}
		if strings.Join(got, "; ") != want || err != api.OK {
			t.Errorf("%s: %q %d", s, got, err)
		}
	}
	for s, want := range map[string]string{counter: `<>(pc = "Done")`, programs[1]: `<>\A self \in ProcSet : pc[self] = "Done"`} {
		e, err := TerminationOf(program(t, s))
		if x, _ := tree.FormatExpr(e); x != want || err != api.OK {
			t.Errorf("%s: %s %d", s, x, err)
		}
	}
	p := program(t, programs[5])
	spec, _ := SpecOf(p)
	for _, d := range spec.Defs {
		if d.Name != "ProcSet" {
			continue
		}
		v, _, err := action.ValueAt(spec, api.StatePair{From: first(t, p), To: first(t, p)}, name("ProcSet"))
		if x, _ := value.FormatValue(v); x != "{1, 2, 3}" || err != api.OK {
			t.Error(x, err)
		}
	}
}

func first(t *testing.T, p api.PlusProgram) api.State {
	l, err := process.FirstStates(p)
	if err != api.OK {
		t.Fatal(err)
	}
	return l[0]
}
