package whole

import (
	"testing"

	"stutter/api"
	"stutter/lasso"
	"stutter/parse"
	"stutter/pluscal"
	"stutter/units"
)

func expr(t testing.TB, s string) api.Expr {
	t.Helper()
	e, at, err := parse.ParseExpr([]string{s})
	if err != api.OK {
		t.Fatal(s, at, err)
	}
	return e
}

func formula(t testing.TB, s string) api.Formula {
	t.Helper()
	f, at, err := lasso.ParseFormula(s)
	if err != api.OK {
		t.Fatal(s, at, err)
	}
	return f
}

func number(n int) api.Value { return api.Value{Kind: api.ValueInt, N: n} }

func modelValue(s string) api.Value { return api.Value{Kind: api.ValueModel, S: s} }

func tuple(l ...api.Value) api.Value {
	v := api.Value{Kind: api.ValueFunc, Items: l}
	for i := range l {
		v.Keys = append(v.Keys, number(i+1))
	}
	return v
}

// fixtures are lists of arguments that go well together.
func fixtures(t testing.TB) [][]any {
	e := func(s string) api.Expr { return expr(t, s) }
	var out [][]any
	add := func(l ...any) { out = append(out, l) }
	one := api.Spec{Vars: []string{"x"}, Init: e("x = 0"), Next: e("(x < 3 /\\ x' = x + 1) \\/ (x = 3 /\\ x' \\in {0, 1})")}
	models := api.Value{Kind: api.ValueSet, Items: []api.Value{modelValue("a"), modelValue("b")}}
	two := api.Spec{Constants: []api.Binding{{Name: "S", Value: models}}, Vars: []string{"x", "y"}, Defs: []api.Def{{Name: "F", Params: []string{"n"}, Arities: []int{0}, Body: e("n + 1")}}, Init: e("x = 0 /\\ y \\in S"), Next: e("(x < 2 /\\ x' = F(x) /\\ UNCHANGED y) \\/ (y' \\in S /\\ x' = 0)")}
	add(one, e("x < 3"), e("x' = x + 1"), api.State{number(0)}, api.State{number(1)}, []api.State{{number(0)}, {number(1)}, {number(2)}}, []api.Expr{e("x < 3"), e("x >= 0")})
	add(two, e("F(x) < 3"), e("y' = y"), api.State{number(0), modelValue("a")})
	graph := api.Graph{States: 4, Init: []int{0}, Edges: []api.Edge{{From: 0, To: 1}, {From: 1, To: 2, Action: 1}, {From: 2, To: 0}, {From: 2, To: 3, Action: 1}, {From: 3, To: 3, Action: 1}}}
	labelled := api.Labelled{Graph: graph, Labels: []int{1, 0, 2, 3}, Steps: []int{-1, 2}, Enabled: []int{3, -1}, Weak: []int{0}, Strong: []int{1}}
	add(graph, labelled, api.Lasso{Prefix: []int{0}, Loop: []int{1, 2, 0}}, formula(t, "[]<>p0"), formula(t, "(p0 ~> p1)"), api.Word{Prefix: []int{0, 1}, Loop: []int{2, 3}})
	lower := api.Graph{States: 3, Init: []int{0}, Edges: []api.Edge{{From: 0, To: 1}, {From: 1, To: 2}, {From: 2, To: 0}}}
	upper := api.Graph{States: 2, Init: []int{0}, Edges: []api.Edge{{From: 0, To: 1}, {From: 1, To: 0}}}
	add(api.RefinePair{Lower: lower, Upper: upper, LowerLabels: []int{0, 0, 1}, UpperLabels: []int{0, 1}}, []int{0, 0, 1})
	add(graph, api.SimSeed{Seed: 5, Steps: 10}, []int{1, 2, 3, 1, 1}, api.SimWalk{Steps: []int{0, 1}})
	add(graph, api.AuxGraph{Graph: upper, Base: []int{0, 1}, Aux: []int{0, 1}}, api.AuxHistory{Start: []int{0}, Next: [][]int{{0, 1}, {1, 0}}}, api.AuxProphecy{Count: 2, Allowed: [][][]int{{{0}, {1}}}}, api.AuxStutter{Count: []int{0, 1, 0, 0, 2}})
	component := api.Component{States: 2, Init: []int{0}, Out: []int{0, 1}, Moves: []api.OpenMove{{From: 0, In: 0, To: 0}, {From: 0, In: 1, To: 1}, {From: 1, In: 0, To: 0}, {From: 1, In: 1, To: 1}}}
	watch := api.Watch{{{0, 0}, {0, 0}}}
	add(component, watch, api.OpenRule{A: component, B: component, AssumeA: watch, GuaranteeA: watch, AssumeB: watch, GuaranteeB: watch}, api.OpenRun{States: []int{0, 1}, Pairs: []api.OpenPair{{In: 1}}}, []api.OpenPair{{In: 1}, {Out: 1}}, 2)
	add(api.StateGraph{Graph: upper, Values: []api.State{{number(0), modelValue("a")}, {number(0), modelValue("b")}}}, api.Permutation{{From: "a", To: "b"}, {From: "b", To: "a"}}, []string{"a", "b"}, two, []api.LogRecord{{Shown: []api.LogShown{{Value: number(0)}}, Action: -1, Gap: 1}, {Gap: 2, Stay: true}})
	add([]api.StoreOp{{State: api.State{number(1)}, From: -1}, {Kind: api.StoreTake}, {Kind: api.StoreSync}, {State: api.State{number(2)}}}, api.State{number(1), number(2)}, []api.DiskWrite{{Bytes: "abc"}, {Kind: api.DiskSync}}, api.DiskCrash{Writes: 1, Fates: []int{0}}, []api.DiskCrash{{Writes: 2}})
	add(api.Lazy{{Kind: api.LazyInterval, Low: 1, High: 4}, {Kind: api.LazySubsets, Args: []int{0}}}, api.Value{Kind: api.ValueSet, Items: []api.Value{number(1), number(2)}}, 1, tuple(number(1), tuple(number(2))))
	add(api.ArenaSpec{Spec: one, Domains: [][]api.Value{{number(0), number(1), number(2), number(3)}}}, 2, e("x < 3"), []api.State{{number(0)}, {number(1)}}, []bool{true, false})
	add(api.Model{Spec: one, Invariants: []api.Expr{e("x < 9")}, Most: 50}, []int{0, 1, 0, 1})
	add(api.Clauses{Vars: 3, Lists: [][]int{{1, 2}, {-1, 3}, {-2, -3}}}, []bool{true, false, true})
	add(api.LevelScope{Constants: []string{"c"}, Vars: []string{"x", "y"}, Defs: []api.Def{{Name: "F", Params: []string{"n"}, Arities: []int{0}, Body: e("n + x")}}}, e("F(1)' = y"), e("ENABLED (x' = c)"), "I_", api.Substitution{Names: []string{"x"}, With: []api.Expr{e("y + 1")}})
	addProofs(t, add)
	addTexts(add)
	return out
}

func addProofs(t testing.TB, add func(...any)) {
	e := func(s string) api.Expr { return expr(t, s) }
	a, b := e("A"), e("B")
	theorem := api.Theorem{Facts: []api.Fact{{Name: "h", Expr: a}, {Name: "i", Expr: e("A => B")}, {Name: "q", Expr: e("\\E x \\in S : P(x)")}}, Defs: []api.Def{{Name: "F", Params: []string{"n"}, Arities: []int{0}, Body: e("n /\\ A")}}, Goal: e("\\A x \\in S : (A => (\\E y \\in T : y = x))")}
	inner := []api.Step{{Kind: api.StepDefine, Def: api.Def{Name: "G", Body: e("d")}}, {Kind: api.StepSuffices, Expr: e("G = c"), Proof: api.ProofOmitted}, {Kind: api.StepQed, Proof: api.ProofObvious}}
	steps := []api.Step{{Kind: api.StepTake, Name: "c", Set: e("S")}, {Kind: api.StepHave, Expr: a}, {Kind: api.StepUse, Facts: []string{"h"}}, {Label: "s", Expr: b, Proof: api.ProofBy, By: []string{"i"}, Defs: []string{"F"}}, {Kind: api.StepPick, Name: "d", Set: e("S"), Expr: e("P(d)"), Proof: api.ProofBy, By: []string{"q"}}, {Kind: api.StepCase, Label: "k", Expr: e("d = c"), Proof: api.ProofSteps, Steps: inner}, {Kind: api.StepWitness, Expr: e("c"), Set: e("T"), Proof: api.ProofObvious}, {Kind: api.StepQed, Proof: api.ProofBy, By: []string{"s", "k"}}}
	add(theorem, steps, []int{5, 0})
	hyp := func(x api.Expr) api.KernelStep {
		return api.KernelStep{Sequent: api.Sequent{Hyps: []api.Expr{x}, Goal: x}}
	}
	derivation := []api.KernelStep{hyp(a), hyp(b), {Sequent: api.Sequent{Hyps: []api.Expr{a, b}, Goal: e("A /\\ B")}, Rule: api.RuleAnd, From: []int{0, 1}}}
	add(derivation, derivation[2].Sequent, api.KernelModel{Size: 2, Names: []string{"A", "B"}, Values: []int{1, 0}, Members: []int{0, 1, 1, 0}, Operators: []string{"P"}, Tables: [][]int{{0, 1}}}, a, "z")
	add([]api.Expr{e("x < y"), e("y < x")}, []int{1, 1}, e("FALSE"), api.Sequent{Hyps: []api.Expr{e("x < y"), e("y < x")}, Goal: e("FALSE")})
	add([]api.Expr{e("x = y"), e("y = z")}, e("f(x)"), e("f(z)"), e("a \\in {x \\in S : x = b}"), "z")
}

// addTexts adds each text with what it is read as.
func addTexts(add func(...any)) {
	for _, l := range texts() {
		if m, _, err := units.ModuleOf(l); err == api.OK {
			text := api.WorkText{Name: m.Name, Lines: l}
			add(m, []api.Module{m}, l, []api.WorkText{text}, []api.WorkAct{{Text: text}})
		}
		if a, _, err := pluscal.ParseAlgorithm(l); err == api.OK {
			add(a, l, api.PlusProgram{Algorithm: a})
		}
		if e, _, err := parse.ParseExpr(l); err == api.OK {
			add(e, l)
		}
	}
}

func texts() [][]string {
	return [][]string{
		{"\\A x \\in S : x = y"}, {"/\\ x = 1", "/\\ y = 2"}, {"{x \\in S : x > 1}"}, {"[f EXCEPT ![1] = @ + 1]"}, {"LET F(a) == a + 1 IN F(2)"}, {"[][x' = x + 1]_x"}, {"x' \\in {0, 1} \\/ x' = 2"}, {"CASE p -> 1 [] OTHER -> 2"},
		{"---- MODULE M ----", "EXTENDS Naturals", "VARIABLE x", "Init == x = 0", "Next == x' = x + 1", "===="}, {"---- MODULE N ----", "CONSTANT c", "F(a) == a + c", "===="},
		{"--algorithm Count { variables x = 0; { A: while (x < 3) x := x + 1 } }"}, {"--algorithm Two {", "variables x = 0, y \\in {0, 1};", "process (P \\in {1, 2})", "variables z = 0;", "{ A: x := x + 1; B: await y = 0; z := x; C: either skip; or goto A }", "}"},
	}
}
