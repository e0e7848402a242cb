package explain

import (
	"math/rand"
	"reflect"
	"slices"
	"strconv"
	"strings"
	"testing"

	"stutter/action"
	"stutter/api"
	"stutter/parse"
	"stutter/tree"
	"stutter/values"
)

func expr(t *testing.T, s string) api.Expr {
	t.Helper()
	e, at, err := parse.ParseExpr([]string{s})
	if err != api.OK {
		t.Fatalf("%q: %d at %v", s, err, at)
	}
	return e
}

func spec(t *testing.T, vars, init, next string) api.Spec {
	t.Helper()
	return api.Spec{Vars: strings.Fields(vars), Init: expr(t, init), Next: expr(t, next)}
}

func example(t *testing.T) api.Spec {
	return spec(t, "x", "x = 0", "(x < 3 /\\ x' = x + 1) \\/ (x = 3 /\\ x' = 0)")
}

func trace(l ...int) []api.State {
	var res []api.State
	for _, n := range l {
		res = append(res, api.State{values.Int(n)})
	}
	return res
}

func pair(from, to int) api.StatePair {
	l := trace(from, to)
	return api.StatePair{From: l[0], To: l[1]}
}

func TestParts(t *testing.T) {
	e := expr(t, "(x = 1 /\\ (x = 2 \\/ x = 3)) /\\ x = 4")
	for operator, want := range map[string][]string{"/\\": {"x = 1", "x = 2 \\/ x = 3", "x = 4"}, "\\/": {"(x = 1 /\\ (x = 2 \\/ x = 3)) /\\ x = 4"}} {
		l, err := PartsOf(e, operator)
		if len(l) != len(want) || err != api.OK {
			t.Fatal(l, err)
		}
		for i := range l {
			if same, err := tree.AreAlike(l[i], expr(t, want[i])); !same || err != api.OK {
				t.Error(operator, i, l[i])
			}
		}
	}
	_, e1 := PartsOf(e, "=>")
	_, e2 := PartsOf(nil, "=>")
	if e1 != api.ErrKind || e2 != api.ErrEmpty {
		t.Error(e1, e2)
	}
}

func TestReplayed(t *testing.T) {
	s := example(t)
	l, at, err := Replayed(s, trace(0, 1, 1, 2))
	if !reflect.DeepEqual(l, []api.TraceStep{{Actions: []int{0}}, {Stutter: true}, {Actions: []int{0}}}) || at != 0 || err != api.OK {
		t.Error(l, at, err)
	}
	both := spec(t, "x", "x = 0", "x' = x \\/ x' \\in {0, 1} \\/ x' = 0")
	if l, _, _ := Replayed(both, trace(0, 0)); !reflect.DeepEqual(l, []api.TraceStep{{Actions: []int{0, 1, 2}, Stutter: true}}) {
		t.Error(l)
	}
	wrong := spec(t, "x", "x = 0", "x' = x + 1 \\/ (x = 2 /\\ x')")
	for _, c := range []struct {
		s     api.Spec
		trace []api.State
		at    int
		err   api.Errno
	}{
		{s, trace(0), 0, api.OK}, {s, trace(1), 0, api.ErrBroken}, {s, trace(0, 1, 3), 2, api.ErrBroken}, {s, nil, 0, api.ErrEmpty}, {s, trace(make([]int, 41)...), 0, api.ErrLarge}, {s, trace(make([]int, 40)...), 0, api.OK}, {s, []api.State{nil}, 0, api.ErrShape},
		{wrong, trace(0, 1, 2, 3), 3, api.ErrType}, {spec(t, "x", "x > 0", "TRUE"), trace(0), 0, api.ErrUnassigned}, {api.Spec{}, nil, 0, api.ErrEmpty},
	} {
		if _, at, err := Replayed(c.s, c.trace); at != c.at || err != c.err {
			t.Errorf("%v: %d %d", c.trace, at, err)
		}
	}
}

func TestChanges(t *testing.T) {
	s := spec(t, "x y z", "x = 0", "TRUE")
	one, two := values.Int(1), values.Int(2)
	l, err := ChangesIn(s, api.State{one, one, two}, api.State{two, one, one})
	if !reflect.DeepEqual(l, []api.Change{{Var: 0, From: one, To: two}, {Var: 2, From: two, To: one}}) || err != api.OK {
		t.Error(l, err)
	}
	_, e1 := ChangesIn(s, api.State{one}, nil)
	_, e2 := ChangesIn(s, api.State{one, one, one}, api.State{one, one, {Kind: 99}})
	_, e3 := ChangesIn(api.Spec{}, nil, nil)
	if e1 != api.ErrShape || e2 != api.ErrKind || e3 != api.ErrEmpty {
		t.Error(e1, e2, e3)
	}
}

func TestFirstBroken(t *testing.T) {
	s := example(t)
	for _, c := range []struct {
		e     string
		trace []api.State
		at    int
		err   api.Errno
	}{{"x < 2", trace(0, 1, 2, 3), 2, api.OK}, {"x < 9", trace(0, 1), 0, api.ErrNone}, {"x", trace(0), 0, api.ErrType}, {"x < 2", nil, 0, api.ErrEmpty}, {"x' = 1", trace(0), 0, api.ErrLevel}} {
		if at, err := FirstBroken(s, expr(t, c.e), c.trace); at != c.at || err != c.err {
			t.Errorf("%s: %d %d", c.e, at, err)
		}
	}
	_, e1 := FirstBroken(s, nil, nil)
	_, e2 := FirstBroken(api.Spec{}, nil, nil)
	if e1 != api.ErrEmpty || e2 != api.ErrEmpty {
		t.Error(e1, e2)
	}
}

func TestShortened(t *testing.T) {
	s := example(t)
	for _, c := range []struct {
		trace []api.State
		want  []int
		err   api.Errno
	}{
		{trace(0, 1, 2, 3, 0, 1), []int{0, 5}, api.OK}, {trace(0), []int{0}, api.OK}, {trace(0, 1, 1, 2), []int{0, 1, 3}, api.OK}, {trace(0, 0, 1, 1, 2), []int{0, 2, 4}, api.OK}, {trace(0, 2), nil, api.ErrNone}, {trace(0, 0), nil, api.ErrNone}, {trace(1, 2), nil, api.ErrBroken}, {nil, nil, api.ErrEmpty},
	} {
		if l, err := Shortened(s, c.trace); !slices.Equal(l, c.want) || err != c.err {
			t.Errorf("%v: %v %d", c.trace, l, err)
		}
	}
	if _, err := Shortened(spec(t, "x", "x = 0", "x'"), trace(0, 1)); err != api.ErrType {
		t.Error(err)
	}
	r := rand.New(rand.NewSource(31))
	for range 20 {
		l := []int{0}
		for range r.Intn(12) {
			at := l[len(l)-1]
			l = append(l, []int{at, (at + 1) % 4, (at + 1) % 4}[r.Intn(3)])
		}
		short, err := Shortened(s, trace(l...))
		if err == api.ErrNone {
			continue
		}
		var some []int
		for _, i := range short {
			some = append(some, l[i])
		}
		again, _ := Shortened(s, trace(some...))
		steps, _, wrong := Replayed(s, trace(some...))
		if err != api.OK || wrong != api.OK || len(again) != len(short) || slices.ContainsFunc(steps, func(p api.TraceStep) bool { return len(p.Actions) == 0 }) || some[0] != l[0] || some[len(some)-1] != l[len(l)-1] {
			t.Error(l, short, again, err, wrong)
		}
	}
}

func written(r api.Reason) string {
	s := strconv.Itoa(r.Node) + map[bool]string{true: "+", false: "-"}[r.True]
	for _, v := range r.Members {
		s += "@" + strconv.Itoa(v.N)
	}
	for _, p := range r.Parts {
		s += " " + written(p)
	}
	if len(r.Parts) > 0 {
		s = "(" + s + ")"
	}
	return s
}

func TestReasons(t *testing.T) {
	s := example(t)
	s.Constants = []api.Binding{{Name: "c", Value: values.Int(3)}}
	s.Defs = []api.Def{{Name: "P", Body: expr(t, "x = 1 /\\ TRUE")}}
	if r, err := WhyStep(s, s.Next, pair(1, 3)); written(r) != "(18- (9- 8-) (17- 12-))" || err != api.OK {
		t.Error(written(r), err)
	} else if l, err := NodesIn(r); !slices.Equal(l, []int{8, 12}) || err != api.OK {
		t.Error(l, err)
	}
	for e, want := range map[string]string{
		"TRUE": "0+", "P": "0+", "\\E y \\in {1, 2} : y > x": "(6+@2 5+)", "\\E y \\in {2, 1} : y < x": "6-", "\\A y \\in {1, 2} : y > x": "(6-@1 5-)", "\\A y \\in {} : y": "2+", "\\A y \\in {1, 2}, z \\in {1, 2} : y + z < 4": "(11-@2@2 10-)", "\\E y \\in {1, 2} : \\E z \\in {y} : z = 2": "(9+@2 (8+@2 7+))",
		"x = 1 /\\ x = 2": "(6- 5-)", "x = 1 /\\ c = 3": "(6+ 2+ 5+)", "x = 1 \\/ x = 2": "(6+ 2+)", "x = 2 \\/ x = 1": "(6+ 5+)", "x = 2 \\/ x = 3": "(6- 2- 5-)", "x = 2 => TRUE": "(4+ 2-)", "x = 1 => TRUE": "(4+ 3+)", "x = 1 => FALSE": "(4- 2+ 3-)", "TRUE <=> FALSE": "(2- 0+ 1-)", "FALSE <=> FALSE": "(2+ 0- 1-)", "~(x = 1)": "(3- 2+)",
		"IF x = 1 THEN TRUE ELSE FALSE": "(5+ 2+ 3+)", "IF x = 2 THEN TRUE ELSE FALSE": "(5- 2- 4-)", "LET a == 1 IN a = x": "4+", "CASE TRUE -> FALSE": "2-",
	} {
		f := expr(t, e)
		r, err := WhyState(s, f, trace(1)[0])
		if written(r) != want || err != api.OK {
			t.Errorf("%s: %s %d", e, written(r), err)
		}
		again, err := WhyStep(s, f, pair(1, 5))
		if !reflect.DeepEqual(r, again) || err != api.OK {
			t.Errorf("%s: %s %d", e, written(again), err)
		}
		if err := CheckReason(s, f, pair(1, 5), r); err != api.OK {
			t.Errorf("%s: %d", e, err)
		}
	}
	for e, want := range map[string]string{"[x' = 2]_x": "5+", "[x' = 1]_x": "(5+ 3+)", "<<x' = 1>>_x": "5-", "<<x' = 2>>_x": "(5- 3-)"} {
		if r, _ := WhyStep(s, expr(t, e), pair(1, 1)); written(r) != want {
			t.Error(e, written(r))
		}
	}
	if r, _ := WhyStep(s, expr(t, "[x' = 2]_x"), pair(1, 3)); written(r) != "(5- 3-)" {
		t.Error(written(r))
	}
}

func TestReasonErrors(t *testing.T) {
	s := example(t)
	s.Constants = []api.Binding{{Name: "c", Value: values.Int(3)}}
	s.Defs = []api.Def{{Name: "P", Body: expr(t, "1")}}
	for e, want := range map[string]api.Errno{
		"\\E P \\in {1} : P = 1": api.ErrCapture, "\\E Nat \\in {1} : TRUE": api.ErrCapture, "\\E y \\in {1} : \\E y \\in {1} : TRUE": api.ErrCapture, "\\A Nat \\in {1} : TRUE": api.OK, "\\E a, b, d, e \\in {1} : TRUE": api.OK,
		"\\E a, b, d, e \\in {1} : \\E f, g, h, i \\in {1} : TRUE": api.ErrLarge, "x": api.ErrType, "x' = 1": api.ErrLevel, "\\E y \\in Nat : TRUE": api.ErrLarge,
	} {
		_, err := WhyState(s, expr(t, e), trace(1)[0])
		if strings.Contains(e, "in Nat") {
			if err == api.OK {
				t.Error(e)
			}
		} else if err != want {
			t.Errorf("%s: %d", e, err)
		}
	}
	_, e1 := WhyState(api.Spec{}, nil, nil)
	_, e2 := WhyState(s, nil, nil)
	_, e3 := WhyState(s, nil, trace(1)[0])
	_, e4 := WhyStep(s, nil, api.StatePair{From: trace(1)[0]})
	if e1 != api.ErrEmpty || e2 != api.ErrShape || e3 != api.ErrEmpty || e4 != api.ErrShape {
		t.Error(e1, e2, e3, e4)
	}
}

func TestCheckReason(t *testing.T) {
	s := example(t)
	leaf := func(node int, is bool) api.Reason { return api.Reason{Node: node, True: is} }
	of := func(node int, is bool, parts ...api.Reason) api.Reason {
		return api.Reason{Node: node, True: is, Parts: parts}
	}
	some := func(n int, parts ...api.Reason) api.Reason {
		return api.Reason{Node: 6, True: true, Members: []api.Value{values.Int(n)}, Parts: parts}
	}
	loop := of(6, true, leaf(2, true))
	loop.Parts[0].Parts = loop.Parts
	wide := of(6, true, slices.Repeat([]api.Reason{leaf(2, true)}, 199)...)
	for i, c := range []struct {
		e   string
		r   api.Reason
		err api.Errno
	}{
		{"x = 1 \\/ x > 0", of(6, true, leaf(5, true)), api.OK}, {"x = 1 \\/ x > 0", of(6, true, leaf(2, true)), api.OK}, {"x = 1 \\/ x > 0", of(6, true, leaf(2, true), leaf(5, true)), api.ErrProof}, {"x = 1 \\/ x > 0", leaf(6, true), api.ErrProof}, {"x = 1 \\/ x > 0", of(6, false, leaf(2, false)), api.ErrProof}, {"x = 1 \\/ x > 0", leaf(5, true), api.ErrProof}, {"x = 1 \\/ x > 0", leaf(-1, true), api.ErrProof}, {"x = 1 \\/ x > 0", leaf(99, true), api.ErrProof},
		{"x = 1 \\/ x > 1", of(6, true, leaf(5, true)), api.ErrProof}, {"x = 1 /\\ x > 0", of(6, true, leaf(2, true), leaf(5, true)), api.OK}, {"x = 1 /\\ x > 0", of(6, true, leaf(5, true), leaf(2, true)), api.ErrProof}, {"x = 1", of(2, true, leaf(0, true)), api.ErrProof}, {"x = 1", api.Reason{Node: 2, True: true, Members: trace(1)[0]}, api.ErrProof},
		{"\\E y \\in {1, 2} : y > 0", some(2, leaf(5, true)), api.OK}, {"\\E y \\in {1, 2} : y > 0", some(3, leaf(5, true)), api.ErrProof}, {"\\E y \\in {1, 2} : y > 1", some(1, leaf(5, true)), api.ErrProof}, {"\\E y \\in {1, 2} : y > 0", some(2), api.ErrProof}, {"\\E y \\in {1, 2} : y > 0", of(6, true, leaf(5, true)), api.ErrProof},
		{"x = 1 \\/ x > 0", loop, api.ErrLarge}, {"x = 1 \\/ x > 0", wide, api.ErrProof}, {"x", leaf(0, true), api.ErrProof},
	} {
		if err := CheckReason(s, expr(t, c.e), pair(1, 1), c.r); err != c.err {
			t.Errorf("case %d, %s: %d", i, c.e, err)
		}
	}
	_, e1 := NodesIn(loop)
	_, e2 := NodesIn(of(0, true, wide))
	l, e3 := NodesIn(wide)
	if e1 != api.ErrLarge || e2 != api.ErrLarge || !slices.Equal(l, []int{2}) || e3 != api.OK {
		t.Error(e1, e2, l, e3)
	}
	e4 := CheckReason(api.Spec{}, nil, api.StatePair{}, loop)
	e5 := CheckReason(s, nil, pair(1, 1), loop)
	e6 := CheckReason(s, nil, api.StatePair{}, loop)
	if e4 != api.ErrEmpty || e5 != api.ErrEmpty || e6 != api.ErrShape {
		t.Error(e4, e5, e6)
	}
}

func formula(r *rand.Rand, depth int) string {
	if depth == 0 {
		return []string{"x = 1", "x' = x + 1", "x > 1", "TRUE", "x' = 2"}[r.Intn(5)]
	}
	a, b := formula(r, depth-1), formula(r, depth-1)
	name := "y" + strconv.Itoa(depth)
	return []string{"(" + a + " /\\ " + b + ")", "(" + a + " \\/ " + b + ")", "(" + a + " => " + b + ")", "(" + a + " <=> " + b + ")", "~" + "(" + a + ")", "(\\E " + name + " \\in {1, 2} : " + name + " = x /\\ " + a + ")", "(\\A " + name + " \\in {0, 1} : " + name + " < x \\/ " + a + ")", "[" + a + "]_x", "<<" + a + ">>_x"}[r.Intn(9)]
}

func TestReasonsAreRight(t *testing.T) {
	s := example(t)
	r := rand.New(rand.NewSource(32))
	for range 300 {
		text := formula(r, r.Intn(4))
		if len(text) > 110 {
			continue
		}
		e, step := expr(t, text), pair(r.Intn(3), r.Intn(3))
		why, err := WhyStep(s, e, step)
		holds, _, wrong := action.HoldsFor(s, step, e)
		if err != api.OK || wrong != api.OK || why.True != holds || CheckReason(s, e, step, why) != api.OK {
			t.Errorf("%s: %s %d %d", text, written(why), err, wrong)
		}
		l, err := NodesIn(why)
		if err != api.OK || len(l) == 0 || l[0] < 0 || l[len(l)-1] >= len(e) {
			t.Errorf("%s: %v %d", text, l, err)
		}
		why.True = !why.True
		if err := CheckReason(s, e, step, why); err != api.ErrProof {
			t.Errorf("%s: %d", text, err)
		}
	}
}

func TestLines(t *testing.T) {
	s := example(t)
	lines := []string{"State 1", "x = 0", "State 2", "x = 1"}
	if l, err := FormatTrace(s, trace(0, 1)); !slices.Equal(l, lines) || err != api.OK {
		t.Error(l, err)
	}
	if l, at, err := ParseTrace(s, lines); !reflect.DeepEqual(l, trace(0, 1)) || at != 0 || err != api.OK {
		t.Error(l, at, err)
	}
	two := spec(t, "x y", "x = 0", "TRUE")
	state := api.State{values.Set(values.Int(1), values.Model("m")), values.Tuple(values.String("a"), values.Bool(true))}
	text, _ := FormatTrace(two, []api.State{state})
	if l, _, err := ParseTrace(two, text); !reflect.DeepEqual(l, []api.State{state}) || err != api.OK {
		t.Error(text, l, err)
	}
	for _, c := range []struct {
		lines string
		at    int
		err   api.Errno
	}{
		{"State 2", 0, api.ErrSyntax}, {"State 1|y = 0", 1, api.ErrSyntax}, {"State 1|x =  0", 1, api.ErrSyntax}, {"State 1|x = 0 ", 1, api.ErrSyntax}, {"State 1|x = {1,2}", 1, api.ErrSyntax}, {"State 1|x = {2, 1}", 1, api.ErrSyntax}, {"State 1|x = 0|State 3", 2, api.ErrSyntax}, {"State 1", 1, api.ErrEnd}, {"State 1|x = 0|State 2", 3, api.ErrEnd}, {"", 0, api.ErrSyntax}, {"State 01|x = 0", 0, api.ErrSyntax},
	} {
		if _, at, err := ParseTrace(s, strings.Split(c.lines, "|")); at != c.at || err != c.err {
			t.Errorf("%q: %d %d", c.lines, at, err)
		}
	}
	var many []string
	for i := range 41 {
		many = append(many, "State "+strconv.Itoa(i+1), "x = 0")
	}
	_, _, e1 := ParseTrace(s, many)
	_, _, e2 := ParseTrace(s, make([]string, 361))
	_, _, e3 := ParseTrace(s, nil)
	_, _, e4 := ParseTrace(api.Spec{}, nil)
	_, e5 := FormatTrace(s, nil)
	if !slices.Equal([]api.Errno{e1, e2, e3, e4, e5}, []api.Errno{api.ErrLarge, api.ErrLarge, api.ErrEmpty, api.ErrEmpty, api.ErrEmpty}) {
		t.Error(e1, e2, e3, e4, e5)
	}
}
