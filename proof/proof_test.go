package proof

import (
	"math/rand"
	"slices"
	"strconv"
	"strings"
	"testing"

	"stutter/alike"
	"stutter/api"
	"stutter/exprs"
	"stutter/kernel"
	"stutter/parse"
	"stutter/prover"
	"stutter/tree"
)

func expr(t testing.TB, s string) api.Expr {
	t.Helper()
	e, at, err := parse.ParseExpr([]string{s})
	if err != api.OK {
		t.Fatalf("%q: %d at %v", s, err, at)
	}
	return e
}

func texts(l []api.Expr) string {
	var out []string
	for _, e := range l {
		out = append(out, text(e))
	}
	return strings.Join(out, "; ")
}

// def reads "F(x, y) == e".
func def(t testing.TB, s string) api.Def {
	t.Helper()
	head, body, _ := strings.Cut(s, " == ")
	name, params, _ := strings.Cut(strings.TrimSuffix(head, ")"), "(")
	d := api.Def{Name: name, Body: expr(t, body)}
	if params != "" {
		d.Params = strings.Split(params, ", ")
		d.Arities = make([]int, len(d.Params))
	}
	return d
}

// theorem reads facts "a: p", definitions "F == e", and the goal.
func theorem(t testing.TB, goal string, l ...string) api.Theorem {
	t.Helper()
	out := api.Theorem{Goal: expr(t, goal)}
	for _, s := range l {
		if name, e, is := strings.Cut(s, ": "); is && !strings.Contains(s, "==") {
			out.Facts = append(out.Facts, api.Fact{Name: name, Expr: expr(t, e)})
		} else {
			out.Defs = append(out.Defs, def(t, s))
		}
	}
	return out
}

var begins = []struct {
	word string
	kind int
}{{"SUFFICES ", api.StepSuffices}, {"HAVE ", api.StepHave}, {"TAKE ", api.StepTake}, {"WITNESS ", api.StepWitness}, {"PICK ", api.StepPick}, {"CASE ", api.StepCase}, {"USE ", api.StepUse}, {"HIDE ", api.StepHide}, {"DEFINE ", api.StepDefine}, {"QED", api.StepQed}}

// one reads what a line says.
func one(t testing.TB, s string) api.Step {
	t.Helper()
	var out api.Step
	head, said, _ := strings.Cut(s, " ")
	out.Label = strings.TrimSuffix(head[3:], ".")
	if before, by, is := strings.Cut(said, " BY "); is {
		out.Proof = api.ProofBy
		said = before
		facts, defs, _ := strings.Cut(" "+by, " DEF ")
		if facts = strings.TrimSpace(facts); facts != "" {
			out.By = strings.Split(facts, ", ")
		}
		if defs != "" {
			out.Defs = strings.Split(defs, ", ")
		}
	} else if before, is := strings.CutSuffix(said, " OBVIOUS"); is {
		out.Proof, said = api.ProofObvious, before
	} else if before, is := strings.CutSuffix(said, " OMITTED"); is {
		out.Proof, said = api.ProofOmitted, before
	}
	for _, b := range begins {
		if rest, is := strings.CutPrefix(said, b.word); is {
			out.Kind, said = b.kind, rest
			break
		}
	}
	named := func(s string) {
		name, set, is := strings.Cut(s, " \\in ")
		out.Name = name
		if is {
			out.Set = expr(t, set)
		}
	}
	switch out.Kind {
	case api.StepTake:
		named(said)
	case api.StepPick:
		name, e, _ := strings.Cut(said, " : ")
		named(name)
		out.Expr = expr(t, e)
	case api.StepWitness:
		e, set, is := strings.Cut(said, " \\in ")
		out.Expr = expr(t, e)
		if is {
			out.Set = expr(t, set)
		}
	case api.StepUse, api.StepHide:
		out.Facts = strings.Split(said, ", ")
	case api.StepDefine:
		out.Def = def(t, said)
	case api.StepQed:
	default:
		out.Expr = expr(t, said)
	}
	return out
}

// steps reads the lines of a proof, as LinesOf writes them.
func steps(t testing.TB, lines ...string) []api.Step {
	t.Helper()
	var out []api.Step
	for i := 0; i < len(lines); {
		s := strings.TrimLeft(lines[i], " ")
		step := one(t, s)
		end := i + 1
		for end < len(lines) && strings.TrimLeft(lines[end], " ")[1] > s[1] {
			end++
		}
		if end > i+1 {
			step.Proof, step.Steps = api.ProofSteps, steps(t, lines[i+1:end]...)
		}
		out = append(out, step)
		i = end
	}
	return out
}

// listed returns obligations as texts.
func listed(l []api.Obligation) []string {
	var out []string
	for _, o := range l {
		var path []string
		for _, n := range o.Path {
			path = append(path, strconv.Itoa(n))
		}
		s := strings.Join(path, ".") + ": " + texts(o.Sequent.Hyps) + " |- " + text(o.Sequent.Goal)
		if o.Omitted {
			s += " omitted"
		}
		out = append(out, s)
	}
	return out
}

// proofs are theorems with proofs, and their obligations.
func proofs(t testing.TB) []struct {
	theorem api.Theorem
	lines   []string
	want    []string
} {
	return []struct {
		theorem api.Theorem
		lines   []string
		want    []string
	}{
		{theorem(t, "p => (q => p)"), []string{"<1> HAVE p", "<1> HAVE q", "<1> QED OBVIOUS"}, []string{"2: p; q |- p"}},
		{theorem(t, "\\A x \\in S : x = x"), []string{"<1> TAKE y \\in S", "<1> QED OBVIOUS"}, []string{"1: y \\in S |- y = y"}},
		{theorem(t, "r", "a: p \\/ q"), []string{"<1>s. CASE p OMITTED", "<1>t. CASE q OMITTED", "<1> QED BY a, s, t"}, []string{"0: p |- r omitted", "1: q |- r omitted", "2: p \\/ q; p => r; q => r |- r"}},
		{theorem(t, "p /\\ q", "h: p", "i: q"), []string{"<1>a. p BY h", "<1>b. q", "  <2> USE i", "  <2> QED OBVIOUS", "<1> QED BY a, b"}, []string{"0: p |- p", "1.1: q |- q", "2: p; q |- p /\\ q"}},
		{theorem(t, "\\E x \\in S : x = c"), []string{"<1> WITNESS c \\in S OMITTED", "<1> QED OBVIOUS"}, []string{"0:  |- c \\in S omitted", "1:  |- c = c"}},
		{theorem(t, "\\E x : \\A y : x = y"), []string{"<1> WITNESS y", "<1> TAKE z", "<1> QED OBVIOUS"}, []string{"2:  |- y = z"}},
		{theorem(t, "q", "a: \\E x \\in S : P(x)"), []string{"<1> PICK c \\in S : P(c) BY a", "<1> PICK d : TRUE", "  <2> SUFFICES p OBVIOUS", "  <2> QED OBVIOUS", "<1> QED OBVIOUS"}, []string{"0: \\E x \\in S : P(x) |- \\E c \\in S : P(c)", "1.0: c \\in S; P(c); p |- \\E d : TRUE", "1.1: c \\in S; P(c) |- p", "2: c \\in S; P(c); TRUE |- q"}},
		{theorem(t, "F(1)", "F(x) == G /\\ x", "G == p", "a: G"), []string{"<1> DEFINE H == F(2)", "<1>b. H OMITTED", "<1> QED BY a, b DEF F, H"}, []string{"1:  |- H omitted", "2: G; G /\\ 2 |- G /\\ 1"}},
		{theorem(t, "q", "a: G", "b: p", "G == p"), []string{"<1> USE a, b", "<1>c. r BY DEF G", "<1> HIDE b, a", "<1> QED BY b, a, b, c"}, []string{"1: p |- r", "3: p; G; r |- q"}},
		{theorem(t, "q", "a: \\A x : x", "b: \\A y : y", "c: r"), []string{"<1> USE c, b", "<1>h. s", "  <2> USE a", "  <2> HIDE c", "  <2> QED OBVIOUS", "<1> HIDE a", "<1> HIDE a", "<1> QED BY h"}, []string{"1.2: \\A y : y |- s", "4: r; s |- q"}},
		{theorem(t, "q"), []string{"<1> SUFFICES p", "  <2>x. CASE r", "    <3> QED OBVIOUS", "  <2> QED BY x", "<1> QED OMITTED"}, []string{"0.0.0: p; r |- q", "0.1: p; r => q |- q", "1:  |- p omitted"}},
	}
}

func TestObligations(t *testing.T) {
	for _, c := range proofs(t) {
		l := steps(t, c.lines...)
		got, path, err := ObligationsOf(c.theorem, l)
		if !slices.Equal(listed(got), c.want) || path != nil || err != api.OK {
			t.Error(c.lines, listed(got), path, err)
		}
		if lines, err := LinesOf(l); !slices.Equal(lines, c.lines) || err != api.OK {
			t.Error(c.lines, lines, err)
		}
	}
}

// TestOmitted leaves out the proof of each step.
func TestOmitted(t *testing.T) {
	for _, c := range proofs(t) {
		for i, s := range steps(t, c.lines...) {
			if s.Proof == api.ProofNone {
				continue
			}
			l := steps(t, c.lines...)
			l[i].Proof, l[i].By, l[i].Defs, l[i].Steps = api.ProofOmitted, nil, nil, nil
			got, _, err := ObligationsOf(c.theorem, l)
			var others, want []string
			for _, o := range listed(got) {
				if !strings.HasPrefix(o, strconv.Itoa(i)+":") {
					others = append(others, o)
				} else if !strings.HasSuffix(o, " omitted") {
					t.Error(o)
				}
			}
			for _, o := range c.want {
				if at, _, _ := strings.Cut(o, ":"); strings.Split(at, ".")[0] != strconv.Itoa(i) {
					want = append(want, o)
				}
			}
			if !slices.Equal(others, want) || len(got) != len(want)+1 || err != api.OK {
				t.Error(c.lines, i, listed(got), err)
			}
			for j := range l {
				before, _ := GoalAt(c.theorem, steps(t, c.lines...), []int{j})
				after, err := GoalAt(c.theorem, l, []int{j})
				if alike.Key(before) != alike.Key(after) || err != api.OK {
					t.Error(c.lines, i, j, err)
				}
			}
		}
	}
}

func TestPlaces(t *testing.T) {
	th := theorem(t, "\\A x \\in S : P(x) => q", "b: p", "a: r")
	l := steps(t, "<1> USE a", "<1> TAKE y \\in S", "<1>g. s", "  <2> USE b", "  <2>f. p OBVIOUS", "  <2> QED OBVIOUS", "<1> HAVE P(y)", "<1> QED BY g")
	for _, c := range []struct {
		path              []int
		goal, used, facts string
		err               api.Errno
	}{
		{[]int{0}, "\\A x \\in S : P(x) => q", "", "a b", api.OK}, {[]int{1}, "\\A x \\in S : P(x) => q", "r", "a b", api.OK}, {[]int{2}, "P(y) => q", "r; y \\in S", "a b", api.OK}, {[]int{2, 0}, "s", "r; y \\in S", "a b", api.OK}, {[]int{2, 1}, "s", "r; y \\in S; p", "a b", api.OK}, {[]int{2, 2}, "s", "r; y \\in S; p", "a b f", api.OK},
		{[]int{3}, "P(y) => q", "r; y \\in S", "a b g", api.OK}, {[]int{4}, "q", "r; y \\in S; P(y)", "a b g", api.OK}, {[]int{5}, "", "", "", api.ErrMissing}, {nil, "", "", "", api.ErrMissing}, {[]int{2, 3}, "", "", "", api.ErrMissing}, {[]int{-1}, "", "", "", api.ErrMissing}, {[]int{0, 0}, "", "", "", api.ErrMissing},
	} {
		goal, e1 := GoalAt(th, l, c.path)
		used, e2 := UsedAt(th, l, c.path)
		facts, e3 := FactsAt(th, l, c.path)
		if e1 != c.err || e2 != c.err || e3 != c.err || len(goal) > 0 && text(goal) != c.goal || texts(used) != c.used || strings.Join(facts, " ") != c.facts {
			t.Error(c.path, goal, texts(used), facts, e1, e2, e3)
		}
	}
	_, e1 := GoalAt(api.Theorem{}, l, nil)
	_, e2 := UsedAt(th, nil, nil)
	_, e3 := FactsAt(th, steps(t, "<1> QED BY z"), []int{0})
	if e1 != api.ErrEmpty || e2 != api.ErrEmpty || e3 != api.ErrMissing {
		t.Error(e1, e2, e3)
	}
}

func TestCheckTheorem(t *testing.T) {
	p := expr(t, "p")
	arities := func(n int) []int { return make([]int, n) }
	for i, c := range []struct {
		t   api.Theorem
		err api.Errno
	}{
		{theorem(t, "p", "a: q", "F(x) == x"), api.OK}, {api.Theorem{}, api.ErrEmpty}, {api.Theorem{Facts: make([]api.Fact, 61)}, api.ErrLarge}, {api.Theorem{Defs: make([]api.Def, 41)}, api.ErrLarge}, {api.Theorem{Facts: make([]api.Fact, 60)}, api.ErrName}, {api.Theorem{Defs: make([]api.Def, 40)}, api.ErrName},
		{api.Theorem{Facts: []api.Fact{{Name: "1", Expr: p}}}, api.ErrName}, {api.Theorem{Facts: []api.Fact{{Name: "a", Expr: p}, {Name: "a"}}}, api.ErrDouble}, {api.Theorem{Facts: []api.Fact{{Name: "a"}, {Name: "1"}}}, api.ErrEmpty}, {api.Theorem{Defs: []api.Def{{Name: "F", Params: []string{"1"}}}}, api.ErrName},
		{api.Theorem{Defs: []api.Def{{Name: "F", Body: p}, {Name: "F", Params: make([]string, 0)}}}, api.ErrExists}, {api.Theorem{Defs: []api.Def{{Name: "F", Params: strings.Fields("a b c d e")}}}, api.ErrLarge}, {api.Theorem{Defs: []api.Def{{Name: "F", Params: strings.Fields("a a")}}}, api.ErrShape},
		{api.Theorem{Defs: []api.Def{{Name: "F", Params: strings.Fields("a a"), Arities: arities(2), Local: true}}}, api.ErrDouble}, {api.Theorem{Defs: []api.Def{{Name: "F", Local: true}}}, api.ErrRefused}, {api.Theorem{Defs: []api.Def{{Name: "F", Recursive: true}}}, api.ErrRefused}, {api.Theorem{Defs: []api.Def{{Name: "F", Params: []string{"a"}, Arities: []int{1}}}}, api.ErrRefused},
		{api.Theorem{Defs: []api.Def{{Name: "F"}}}, api.ErrEmpty}, {api.Theorem{Goal: api.Expr{{Kind: 99}}}, api.ErrKind}, {api.Theorem{Defs: []api.Def{{Name: "F", Params: strings.Fields("a b c d"), Arities: arities(4), Body: p}}, Goal: p}, api.OK},
	} {
		if err := CheckTheorem(c.t); err != c.err {
			t.Error(i, err)
		}
		if _, path, err := ObligationsOf(c.t, nil); c.err != api.OK && err != c.err || path != nil {
			t.Error(i, path, err)
		}
	}
}

func TestCheckSteps(t *testing.T) {
	p := expr(t, "p")
	qed := api.Step{Kind: api.StepQed, Proof: api.ProofObvious}
	nested := []api.Step{qed}
	for range 4 {
		nested = []api.Step{{Kind: api.StepQed, Proof: api.ProofSteps, Steps: nested}}
	}
	many := append(slices.Repeat([]api.Step{{Expr: p, Proof: api.ProofObvious}}, 59), qed)
	round := []api.Step{{Kind: api.StepQed, Proof: api.ProofSteps}}
	round[0].Steps = round
	deep := []api.Step{{Kind: api.StepQed, Proof: api.ProofSteps, Steps: []api.Step{{Expr: p, Proof: api.ProofObvious, Label: "1"}, qed}}}
	wide := []api.Step{{Expr: p, Proof: api.ProofSteps}, qed}
	wide[0].Steps = wide
	first := func(s api.Step) []api.Step { return []api.Step{s, qed} }
	for i, c := range []struct {
		l    []api.Step
		path []int
		err  api.Errno
	}{
		{nil, nil, api.ErrEmpty}, {many, nil, api.OK}, {append([]api.Step{many[0]}, many...), nil, api.ErrLarge}, {nested, []int{0, 0, 0, 0, 0}, api.ErrLarge}, {nested[0].Steps, nil, api.OK}, {round, []int{0, 0, 0, 0, 0}, api.ErrLarge}, {wide, []int{0, 0, 0, 0, 0}, api.ErrLarge}, {deep, []int{0, 0}, api.ErrName},
		{first(api.Step{Kind: -1}), []int{0}, api.ErrKind}, {first(api.Step{Kind: api.StepKinds}), []int{0}, api.ErrKind}, {first(api.Step{Proof: api.ProofKinds, Expr: p}), []int{0}, api.ErrKind}, {first(api.Step{Proof: -1, Expr: p}), []int{0}, api.ErrKind}, {first(qed), []int{0}, api.ErrState}, {many[:1], []int{0}, api.ErrState},
		{first(api.Step{Proof: api.ProofObvious}), []int{0}, api.ErrForm}, {first(api.Step{Expr: p}), []int{0}, api.ErrForm}, {first(api.Step{Expr: p, Proof: api.ProofBy}), []int{0}, api.ErrForm}, {first(api.Step{Expr: p, Proof: api.ProofObvious, By: []string{"a"}}), []int{0}, api.ErrForm}, {first(api.Step{Expr: p, Proof: api.ProofObvious, Steps: nested}), []int{0}, api.ErrForm}, {first(api.Step{Expr: p, Proof: api.ProofObvious, Name: "x"}), []int{0}, api.ErrForm},
		{first(api.Step{Kind: api.StepHave, Expr: p, Proof: api.ProofObvious}), []int{0}, api.ErrForm}, {first(api.Step{Kind: api.StepTake}), []int{0}, api.ErrForm}, {first(api.Step{Kind: api.StepTake, Name: "x", Expr: p}), []int{0}, api.ErrForm}, {first(api.Step{Kind: api.StepWitness, Expr: p, Set: p}), []int{0}, api.ErrForm}, {first(api.Step{Kind: api.StepWitness, Expr: p, Proof: api.ProofObvious}), []int{0}, api.ErrForm}, {first(api.Step{Kind: api.StepPick, Expr: p, Name: "x"}), []int{0}, api.ErrForm},
		{first(api.Step{Kind: api.StepUse}), []int{0}, api.ErrForm}, {first(api.Step{Kind: api.StepHide, Facts: []string{"a"}, Expr: p}), []int{0}, api.ErrForm}, {first(api.Step{Kind: api.StepDefine}), []int{0}, api.ErrForm}, {first(api.Step{Kind: api.StepDefine, Def: api.Def{Local: true}}), []int{0}, api.ErrName}, {first(api.Step{Expr: p, Proof: api.ProofObvious, Def: api.Def{Name: "F"}}), []int{0}, api.ErrForm}, {first(api.Step{Expr: p, Proof: api.ProofObvious, Facts: []string{"a"}}), []int{0}, api.ErrForm}, {first(api.Step{Expr: p, Proof: api.ProofObvious, Set: p}), []int{0}, api.ErrForm},
		{first(api.Step{Kind: api.StepUse, Facts: []string{"1"}}), []int{0}, api.ErrName}, {first(api.Step{Expr: p, Proof: api.ProofBy, By: []string{"a", ""}}), []int{0}, api.ErrName}, {first(api.Step{Expr: p, Proof: api.ProofBy, Defs: []string{"M!a"}}), []int{0}, api.ErrName}, {first(api.Step{Label: "1", Expr: p, Proof: api.ProofObvious}), []int{0}, api.ErrName}, {first(api.Step{Kind: api.StepTake, Name: "1"}), []int{0}, api.ErrName},
		{first(api.Step{Expr: api.Expr{{Kind: 99}}, Proof: api.ProofObvious}), []int{0}, api.ErrKind}, {first(api.Step{Kind: api.StepTake, Name: "x", Set: api.Expr{{Kind: 99}}}), []int{0}, api.ErrKind}, {first(api.Step{Kind: api.StepDefine, Def: api.Def{Name: "F", Params: []string{"a"}, Arities: []int{1}, Body: p}}), []int{0}, api.ErrRefused}, {first(api.Step{Kind: api.StepDefine, Def: api.Def{Name: "F"}}), []int{0}, api.ErrEmpty},
		{first(api.Step{Expr: p, Proof: api.ProofSteps}), []int{0}, api.ErrEmpty}, {first(api.Step{Kind: api.StepWitness, Expr: p, Set: p, Proof: api.ProofOmitted}), nil, api.OK}, {[]api.Step{{Kind: api.StepQed}}, []int{0}, api.ErrForm}, {[]api.Step{{Kind: api.StepQed, Proof: api.ProofObvious, Expr: p}}, []int{0}, api.ErrForm},
	} {
		if path, err := CheckSteps(c.l); !slices.Equal(path, c.path) || err != c.err {
			t.Error(i, path, err)
		}
		if _, err := LinesOf(c.l); err != c.err {
			t.Error(i, err)
		}
		if _, path, err := ObligationsOf(api.Theorem{Goal: p}, c.l); c.err != api.OK && (!slices.Equal(path, c.path) || err != c.err) {
			t.Error(i, path, err)
		}
	}
	if _, err := LinesOf([]api.Step{{Expr: exprs.Make(api.Node{Kind: api.ExprTuple}, slices.Repeat([]api.Expr{expr(t, "longer")}, 16)...), Proof: api.ProofObvious}, qed}); err != api.ErrLarge {
		t.Error(err)
	}
}

func TestObligationErrors(t *testing.T) {
	th := theorem(t, "\\A x \\in S : P(x) => (\\E y \\in T : y = x)", "a: n", "F(z) == z + m")
	take := "<1> TAKE c \\in S"
	for _, c := range []struct {
		lines []string
		path  []int
		err   api.Errno
	}{
		{[]string{"<1>a. p OBVIOUS", "<1> QED OBVIOUS"}, []int{0}, api.ErrExists}, {[]string{"<1>b. p OBVIOUS", "<1>b. USE a", "<1> QED OBVIOUS"}, []int{1}, api.ErrExists}, {[]string{"<1>b. USE a", "<1>b. p OBVIOUS", "<1> QED OBVIOUS"}, nil, api.OK}, {[]string{"<1>b. p", "  <2>b. q OBVIOUS", "  <2> QED OBVIOUS", "<1> QED BY b"}, nil, api.OK},
		{[]string{"<1> TAKE S \\in S", "<1> QED OBVIOUS"}, []int{0}, api.ErrExists}, {[]string{"<1> TAKE n \\in S", "<1> QED OBVIOUS"}, []int{0}, api.ErrExists}, {[]string{"<1> TAKE m \\in S", "<1> QED OBVIOUS"}, []int{0}, api.ErrExists}, {[]string{"<1> TAKE F \\in S", "<1> QED OBVIOUS"}, []int{0}, api.ErrExists}, {[]string{"<1> TAKE z \\in S", "<1> QED OBVIOUS"}, nil, api.OK}, {[]string{"<1> TAKE T \\in S", "<1> QED OBVIOUS"}, []int{0}, api.ErrExists},
		{[]string{"<1> TAKE x \\in T", "<1> QED OBVIOUS"}, []int{0}, api.ErrProof}, {[]string{"<1> TAKE x", "<1> QED OBVIOUS"}, []int{0}, api.ErrProof}, {[]string{"<1> HAVE p", "<1> QED OBVIOUS"}, []int{0}, api.ErrProof}, {[]string{"<1> WITNESS p", "<1> QED OBVIOUS"}, []int{0}, api.ErrProof}, {[]string{take, "<1> HAVE P(d)", "<1> QED OBVIOUS"}, []int{1}, api.ErrProof}, {[]string{take, "<1> HAVE P(c)", "<1> WITNESS c \\in S OBVIOUS", "<1> QED OBVIOUS"}, []int{2}, api.ErrProof},
		{[]string{take, "<1> HAVE P(c)", "<1> WITNESS c \\in T OBVIOUS", "<1> QED OBVIOUS"}, nil, api.OK}, {[]string{take, "<1> PICK c : TRUE OBVIOUS", "<1> QED OBVIOUS"}, []int{1}, api.ErrExists}, {[]string{"<1> PICK c : TRUE", "  <2> PICK c : TRUE OBVIOUS", "  <2> QED OBVIOUS", "<1> QED OBVIOUS"}, []int{0, 0}, api.ErrExists}, {[]string{"<1> p", "  <2> PICK c : c OBVIOUS", "  <2> QED OBVIOUS", "<1> PICK c : c OBVIOUS", "<1> QED OBVIOUS"}, nil, api.OK},
		{[]string{"<1> PICK c \\in c : TRUE OBVIOUS", "<1> QED OBVIOUS"}, []int{0}, api.ErrExists}, {[]string{"<1> PICK c : d OBVIOUS", "<1> PICK d : TRUE OBVIOUS", "<1> QED OBVIOUS"}, []int{1}, api.ErrExists}, {[]string{"<1>l. d OBVIOUS", "<1> PICK d : TRUE OBVIOUS", "<1> QED OBVIOUS"}, []int{1}, api.ErrExists}, {[]string{"<1> d OBVIOUS", "<1> PICK d : TRUE OBVIOUS", "<1> QED OBVIOUS"}, nil, api.OK},
		{[]string{"<1> SUFFICES d OBVIOUS", "<1> PICK d : TRUE OBVIOUS", "<1> QED OBVIOUS"}, []int{1}, api.ErrExists}, {[]string{"<1> DEFINE D == d", "<1> PICK d : TRUE OBVIOUS", "<1> QED OBVIOUS"}, []int{1}, api.ErrExists}, {[]string{"<1> DEFINE D(d) == d", "<1> PICK d : TRUE OBVIOUS", "<1> DEFINE D == p", "<1> QED OBVIOUS"}, []int{2}, api.ErrExists}, {[]string{"<1> PICK d : TRUE OBVIOUS", "<1> DEFINE d == p", "<1> QED OBVIOUS"}, []int{1}, api.ErrExists},
		{[]string{"<1> DEFINE F == p", "<1> QED OBVIOUS"}, []int{0}, api.ErrExists}, {[]string{"<1> DEFINE n == p", "<1> QED OBVIOUS"}, []int{0}, api.ErrExists}, {[]string{"<1> USE b", "<1> QED OBVIOUS"}, []int{0}, api.ErrMissing}, {[]string{"<1> HIDE b", "<1> QED OBVIOUS"}, []int{0}, api.ErrMissing}, {[]string{"<1> QED BY b"}, []int{0}, api.ErrMissing}, {[]string{"<1> QED BY DEF G"}, []int{0}, api.ErrMissing}, {[]string{"<1> QED BY F"}, []int{0}, api.ErrMissing}, {[]string{"<1>b. p BY b", "<1> QED OBVIOUS"}, []int{0}, api.ErrMissing},
		{[]string{"<1> p", "  <2>b. q OBVIOUS", "  <2> QED BY b", "<1> QED BY b"}, []int{1}, api.ErrMissing}, {[]string{"<1>h. HAVE p", "<1> QED OBVIOUS"}, []int{0}, api.ErrProof}, {[]string{"<1>h. SUFFICES p OBVIOUS", "<1> QED BY h"}, []int{1}, api.ErrMissing}, {[]string{"<1> F(1, 2) BY DEF F", "<1> QED OBVIOUS"}, nil, api.OK}, {[]string{"<1> \\E m : F(m) BY DEF F", "<1> QED OBVIOUS"}, []int{0}, api.ErrCapture}, {[]string{"<1> \\E m : F(m) OBVIOUS", "<1> QED OBVIOUS"}, nil, api.OK},
	} {
		l := steps(t, c.lines...)
		if o, path, err := ObligationsOf(th, l); !slices.Equal(path, c.path) || err != c.err || err != api.OK && o != nil {
			t.Error(c.lines, path, err)
		}
	}
	operator := theorem(t, "\\E x : x(1) = 1")
	for s, want := range map[string]api.Errno{"<1> WITNESS f": api.OK, "<1> WITNESS 1": api.ErrArity} {
		if _, path, err := ObligationsOf(operator, steps(t, s, "<1> QED OBVIOUS")); err != want || err != api.OK && !slices.Equal(path, []int{0}) {
			t.Error(s, path, err)
		}
	}
	large := exprs.Make(api.Node{Kind: api.ExprTuple}, slices.Repeat([]api.Expr{expr(t, "<<1, 2, 3, 4>>")}, 30)...)
	for i, l := range [][]api.Step{{{Kind: api.StepCase, Expr: large, Proof: api.ProofObvious}}, {{Kind: api.StepPick, Name: "c", Expr: large, Set: large, Proof: api.ProofObvious}}} {
		goal := exprs.Apply("=", expr(t, "1"), exprs.Make(api.Node{Kind: api.ExprTuple}, slices.Repeat([]api.Expr{expr(t, "1")}, 16)...))
		if _, path, err := ObligationsOf(api.Theorem{Goal: goal}, append(l, api.Step{Kind: api.StepQed, Proof: api.ProofObvious})); !slices.Equal(path, []int{0}) || err != api.ErrLarge {
			t.Error(i, path, err)
		}
	}
	var facts, names []string
	for i := range 13 {
		names = append(names, "f"+strconv.Itoa(i))
		facts = append(facts, names[i]+": p"+strconv.Itoa(i))
	}
	for n, want := range map[int]api.Errno{12: api.OK, 13: api.ErrLarge} {
		if _, path, err := ObligationsOf(theorem(t, "q", facts...), steps(t, "<1> USE f0", "<1> QED BY "+strings.Join(names[:n], ", "))); err != want || err != api.OK && !slices.Equal(path, []int{1}) {
			t.Error(n, path, err)
		}
	}
}

// TestUsed compares facts that are used with facts that are named in each proof.
func TestUsed(t *testing.T) {
	th := theorem(t, "q", "a: p", "b: p => r")
	used, _, e1 := ObligationsOf(th, steps(t, "<1> USE a, b", "<1>c. r OBVIOUS", "<1> QED BY c"))
	named, _, e2 := ObligationsOf(th, steps(t, "<1>c. r BY b, a", "<1> QED BY c, a, b"))
	if e1 != api.OK || e2 != api.OK || len(used) != len(named) {
		t.Fatal(e1, e2)
	}
	for i := range used {
		l, m := alike.Keys(used[i].Sequent.Hyps), alike.Keys(named[i].Sequent.Hyps)
		slices.Sort(l)
		slices.Sort(m)
		if !slices.Equal(l, m) {
			t.Error(i, listed(used), listed(named))
		}
	}
}

// TestProved proves all obligations of a proof, and the kernel accepts them.
func TestProved(t *testing.T) {
	th := theorem(t, "A /\\ B", "h: A", "i: A => B")
	l, _, err := ObligationsOf(th, steps(t, "<1>a. A BY h", "<1>b. B BY a, i", "<1> QED BY a, b"))
	if len(l) != 3 || err != api.OK {
		t.Fatal(l, err)
	}
	for _, o := range l {
		a, err := prover.Prove(o.Sequent)
		if a.Verdict != api.ProverProved || err != api.OK || kernel.CheckProof(a.Steps, o.Sequent) != api.OK {
			t.Error(o, a, err)
		}
	}
}

// writer makes proofs at random that fit their goals.
type writer struct {
	*rand.Rand
	names int
}

func (w *writer) formula(depth int, bound []string) string {
	name := func() string { return append([]string{"u", "v"}, bound...)[w.Intn(2+len(bound))] }
	if depth == 0 {
		return []string{"p", "q", name() + " = " + name(), name() + " \\in s"}[w.Intn(4)]
	}
	x := "x" + strconv.Itoa(len(bound))
	inner := append(slices.Clone(bound), x)
	switch w.Intn(6) {
	case 0:
		return "(\\A " + x + " \\in s : " + w.formula(depth-1, inner) + ")"
	case 1:
		return "(\\E " + x + " \\in s : " + w.formula(depth-1, inner) + ")"
	case 2:
		return "(\\A " + x + " : " + w.formula(depth-1, inner) + ")"
	case 3:
		return "(\\E " + x + " : " + w.formula(depth-1, inner) + ")"
	case 4:
		return "(" + w.formula(depth-1, bound) + " => " + w.formula(depth-1, bound) + ")"
	}
	return "(" + w.formula(depth-1, bound) + []string{" /\\ ", " \\/ "}[w.Intn(2)] + w.formula(depth-1, bound) + ")"
}

// proof returns steps for a goal on a level.
func (w *writer) proof(t testing.TB, goal api.Expr, level int) []api.Step {
	var out []api.Step
	reason := func(s api.Step, asked api.Expr) api.Step {
		s.Proof = api.ProofObvious
		if level < 3 && w.Intn(4) == 0 {
			s.Proof, s.Steps = api.ProofSteps, w.proof(t, asked, level+1)
		}
		return s
	}
	for range 1 + w.Intn(3) {
		root := goal[len(goal)-1]
		parts := alike.Operands(goal)
		fresh := "n" + strconv.Itoa(w.names)
		w.names++
		other := expr(t, w.formula(1, nil))
		put := func(by string) api.Expr {
			e, _ := tree.Renamed(parts[len(parts)-1], root.Names[0], by)
			return e
		}
		switch {
		case root.Kind == api.ExprAll && w.Intn(4) > 0:
			out = append(out, api.Step{Kind: api.StepTake, Name: fresh, Set: parts[0]})
			goal = put(fresh)
		case root.Kind == api.ExprAny && w.Intn(4) > 0:
			out = append(out, api.Step{Kind: api.StepTake, Name: fresh})
			goal = put(fresh)
		case root.Kind == api.ExprSome && w.Intn(4) > 0:
			out = append(out, reason(api.Step{Kind: api.StepWitness, Expr: exprs.Name("u"), Set: parts[0]}, exprs.Apply("\\in", exprs.Name("u"), parts[0])))
			goal = put("u")
		case root.Kind == api.ExprExists && w.Intn(4) > 0:
			out = append(out, api.Step{Kind: api.StepWitness, Expr: exprs.Name("v")})
			goal = put("v")
		case root.Kind == api.ExprApply && root.Text == "=>" && w.Intn(4) > 0:
			out = append(out, api.Step{Kind: api.StepHave, Expr: parts[0]})
			goal = parts[1]
		case w.Intn(4) == 0:
			out = append(out, reason(api.Step{Kind: api.StepSuffices, Expr: other}, goal))
			goal = other
		case w.Intn(3) == 0:
			label := "c" + strconv.Itoa(w.names)
			out = append(out, reason(api.Step{Kind: api.StepCase, Label: label, Expr: other}, goal), api.Step{Kind: api.StepUse, Facts: []string{label}})
		case w.Intn(2) == 0:
			e := expr(t, w.formula(1, []string{fresh}))
			some := exprs.Make(api.Node{Kind: api.ExprExists, Names: []string{fresh}}, e)
			out = append(out, reason(api.Step{Kind: api.StepPick, Name: fresh, Expr: e}, some))
		default:
			label := "a" + strconv.Itoa(w.names)
			out = append(out, reason(api.Step{Label: label, Expr: other}, other), api.Step{Kind: api.StepUse, Facts: []string{label}})
		}
	}
	return append(out, reason(api.Step{Kind: api.StepQed}, goal))
}

// holdsForAll says whether a sequent holds in a model for all individuals in the place of some names.
func holdsForAll(t testing.TB, m api.KernelModel, names []string, s api.Sequent) bool {
	if len(names) == 0 {
		is, err := kernel.HoldsIn(m, s)
		if err != api.OK {
			t.Fatal(err)
		}
		return is
	}
	m.Names = append(slices.Clone(m.Names), names[0])
	for i := range m.Size {
		next := m
		next.Values = append(slices.Clone(m.Values), i)
		if !holdsForAll(t, next, names[1:], s) {
			return false
		}
	}
	return true
}

func TestEnough(t *testing.T) {
	w := &writer{Rand: rand.New(rand.NewSource(35))}
	enough := 0
	for range 1500 {
		th := api.Theorem{Goal: expr(t, w.formula(2, nil)), Facts: []api.Fact{{Name: "given", Expr: expr(t, w.formula(1, nil))}}}
		l := append([]api.Step{{Kind: api.StepUse, Facts: []string{"given"}}}, w.proof(t, th.Goal, 1)...)
		obligations, path, err := ObligationsOf(th, l)
		if err == api.ErrLarge {
			continue
		}
		if err != api.OK {
			lines, _ := LinesOf(l)
			t.Fatal(text(th.Goal), strings.Join(lines, "\n"), path, err)
		}
		for range 12 {
			m := api.KernelModel{Size: 2, Names: []string{"p", "q", "s", "u", "v"}}
			for range m.Names {
				m.Values = append(m.Values, w.Intn(2))
			}
			for range 4 {
				m.Members = append(m.Members, w.Intn(2))
			}
			all := true
			for _, o := range obligations {
				var names []string
				for _, e := range append(slices.Clone(o.Sequent.Hyps), o.Sequent.Goal) {
					free, _ := tree.FreeIn(e)
					names = append(names, free...)
				}
				slices.Sort(names)
				names = slices.DeleteFunc(slices.Compact(names), func(n string) bool { return !strings.HasPrefix(n, "n") })
				all = all && holdsForAll(t, m, names, o.Sequent)
			}
			if !all {
				continue
			}
			enough++
			if is, err := kernel.HoldsIn(m, api.Sequent{Hyps: []api.Expr{th.Facts[0].Expr}, Goal: th.Goal}); !is || err != api.OK {
				lines, _ := LinesOf(l)
				t.Fatal(text(th.Goal), strings.Join(lines, "\n"), m)
			}
		}
	}
	t.Log(enough)
}
