package action

import (
	"slices"
	"strconv"
	"strings"
	"testing"

	"stutter/api"
	"stutter/parse"
	"stutter/tree"
	"stutter/value"
	"stutter/values"
)

func expr(t *testing.T, s string) api.Expr {
	t.Helper()
	e, p, err := parse.ParseExpr(strings.Split(s, "\n"))
	if err != api.OK {
		t.Fatalf("%s: %v %d", s, p, err)
	}
	return e
}

func state(t *testing.T, s string) api.State {
	t.Helper()
	var out api.State
	for _, x := range strings.Split(s, ";") {
		v, _, err := value.ParseValue(x)
		if err != api.OK {
			t.Fatal(s)
		}
		out = append(out, v)
	}
	return out
}

func show(l []api.State) string {
	var out []string
	for _, x := range l {
		var texts []string
		for _, v := range x {
			s, _ := value.FormatValue(v)
			texts = append(texts, s)
		}
		out = append(out, strings.Join(texts, ";"))
	}
	return strings.Join(out, " ")
}

func def(t *testing.T, s string) api.Def {
	head, body, _ := strings.Cut(s, " == ")
	name, params, _ := strings.Cut(strings.Trim(head, ")"), "(")
	d := api.Def{Name: name, Body: expr(t, body)}
	if params != "" {
		for _, p := range strings.Split(params, ", ") {
			p, op := strings.CutSuffix(p, "/1")
			n := 0
			if op {
				n = 1
			}
			d.Params, d.Arities = append(d.Params, p), append(d.Arities, n)
		}
	}
	return d
}

func spec(t *testing.T, vars, init, next string, defs ...string) api.Spec {
	s := api.Spec{Constants: []api.Binding{{Name: "c", Value: values.Int(3)}}, Vars: strings.Fields(vars), Init: expr(t, init), Next: expr(t, next)}
	for _, d := range defs {
		s.Defs = append(s.Defs, def(t, d))
	}
	return s
}

var defs = []string{"Inc == x' = x + 1", "Set(a) == x' = a", "Both(A/1) == A(1) \\/ A(2)", "P(a) == a'", "Loop == Loop", "vars == <<x>>"}

func TestSuccessors(t *testing.T) {
	s := spec(t, "x", "x = 0", "TRUE", defs...)
	for e, want := range map[string]string{
		`x' \in {2, 1, 2}`: "1 2", `x' = x + 1 \/ x' = 0`: "0 5", "[x' = x + 1]_x": "4 5", "<<x' = x + 1>>_x": "5", "<<x' = x>>_x": "", `(x' = x + 1) \cdot (x' = x * 2)`: "10", `\E i \in 1 .. 2 : x' = i`: "1 2", "IF x = 4 THEN x' = 1 ELSE x' = 2": "1", "CASE x = 3 -> x' = 1 [] OTHER -> x' = 2": "2", "LET a == x' = 7 IN a": "7", "Inc": "5", "Set(x + 3)": "7",
		"Both(Set)": "1 2", "Both(LAMBDA u : x' = u * 5)": "10 5", "UNCHANGED x": "4", "UNCHANGED <<x, x>>": "4", "UNCHANGED vars": "4", "UNCHANGED <<vars, x>>": "4", "UNCHANGED (x + 1) /\\ x' = 4": "?24", "x' = 4 /\\ UNCHANGED (x + 1)": "4", "x' = 5 /\\ UNCHANGED (x + 1)": "", "FALSE /\\ x' = 1": "", "x' = 1 /\\ x' = 2": "", "x' = 1 /\\ x' = 1": "1", "x' = x'": "?24", "x' > 0": "?24", "1 = x'": "?24", "TRUE": "?24", "x' = 1 /\\ x' > 0": "1", "FALSE": "",
		"x' = P(x)": "?24", "P(x) = 1": "?24", "x' = 1 /\\ P(x) = 1": "1", "x' = 1 /\\ ENABLED (x' = 2)": "1", "x' = 1 /\\ ENABLED (x' = 2 /\\ x = 3)": "", "x' = 1 /\\ (1 + 1)": "?20", "x' \\in Nat": "?23", `\A i \in {1} : x' = i`: "?24", "x' = 1 => TRUE": "?24", "x''": "?18", "(x' = 1)'": "?18", "[]TRUE": "?18", "zz": "?10", "Loop": "?37", "x' = (x + 1)'": "?24", `x' \in 1 .. 101`: "?2", `x' \in 1 .. 100`: "#100", "x' = zz": "?10", "x' \\in SUBSET (1 .. 29)": "?2", `x' = 5 /\ ((x' = x + 1) \cdot (x' = x))`: "5", `x' = 6 /\ ((x' = x + 1) \cdot (x' = x))`: "",
		"x' = 1 /\\ ((x' = 5) \\cdot (x' = 1))": "1", `\E x1 \in {1, 2} : x' = x1 /\ x1 > 1`: "2", "x' = 1 \\/ FALSE": "1", "LET x1(a) == x' = a IN x1(1) \\/ x1(2)": "1 2", "x' = 3 /\\ UNCHANGED x": "", "x' = 4 /\\ UNCHANGED x": "4",
	} {
		l, at, err := Successors(s, state(t, "4"), expr(t, e))
		if n, is := strings.CutPrefix(want, "?"); is {
			if n != strings.TrimSpace(itoa(int(err))) {
				t.Errorf("%s: %d at %d", e, err, at)
			}
			continue
		}
		if want == "#100" {
			if len(l) != 100 || err != api.OK {
				t.Errorf("%s: %d %d", e, len(l), err)
			}
			continue
		}
		got := strings.Fields(show(l))
		slices.Sort(got)
		if strings.Join(got, " ") != want || err != api.OK || !slices.IsSortedFunc(l, values.CompareStates) {
			t.Errorf("%s: %v %d at %d", e, got, err, at)
		}
		on, _, err := EnabledIn(s, state(t, "4"), expr(t, e))
		held, _, err2 := HoldsAt(s, state(t, "4"), expr(t, "ENABLED ("+e+")"))
		if on != (want != "") || err != api.OK || held != on || err2 != api.OK {
			t.Errorf("%s: enabled %v %d %v %d", e, on, err, held, err2)
		}
		for _, y := range l {
			if ok, at, err := HoldsFor(s, api.StatePair{From: state(t, "4"), To: y}, expr(t, e)); !ok || err != api.OK {
				t.Errorf("%s: no step %v %d %d", e, y, at, err)
			}
		}
	}
}

func itoa(n int) string { return strconv.Itoa(n) }

// all of an action is gone through before what comes behind it, and before it is asked whether all is assigned
func TestAllIsGoneThrough(t *testing.T) {
	s := spec(t, "x", "x = 0", "TRUE", "A == (TRUE \\/ 1) /\\ TRUE", "v == x' = 1 \\/ 1")
	for e, want := range map[string]struct {
		at  int
		err api.Errno
	}{
		`TRUE \/ 1`: {1, api.ErrType}, `(x' = 1 \/ 1) /\ 2`: {4, api.ErrType}, `(TRUE \/ x' = 1) /\ 2`: {6, api.ErrType}, `TRUE \/ x' = 1`: {5, api.ErrUnassigned}, `x' = 1 \/ TRUE`: {5, api.ErrUnassigned}, `(x' = 1 /\ TRUE) \/ TRUE`: {7, api.ErrUnassigned}, `(\E i \in {1, 2} : x' = 2 \div (2 - i)) /\ 1`: {9, api.ErrZero}, `(\E i \in {1, 2} : TRUE) /\ zz`: {5, api.ErrMissing},
		`<<x' = 1 \/ x' = 2 \div 0>>_zz`: {8, api.ErrZero}, `<<x' = 1>>_zz`: {4, api.ErrMissing}, `[TRUE]_zz`: {1, api.ErrMissing}, `[TRUE]_x`: {2, api.ErrUnassigned}, `(x' \in {1, 2} \/ 1 \div 0) /\ 1`: {8, api.ErrZero}, "A": {0, api.ErrType}, "A /\\ zz": {0, api.ErrType}, "v /\\ 2": {0, api.ErrType}, `IF TRUE THEN TRUE \/ 1 ELSE TRUE`: {2, api.ErrType}, `LET a == TRUE \/ 1 IN a`: {1, api.ErrType}, `(TRUE \/ 1) \cdot (x' = 1)`: {1, api.ErrType}, `(x' = 1) \cdot (TRUE \/ 1)`: {5, api.ErrType}, `(x' = 1 \/ TRUE) \cdot (x' = 1)`: {5, api.ErrUnassigned}, `(x' = 1) \cdot (TRUE \/ x' = 1)`: {9, api.ErrUnassigned},
		`(UNCHANGED <<x, 1 \div 0>> \/ 2) /\ 3`: {3, api.ErrZero}, `((TRUE \/ 1) /\ x' = 1) /\ 2`: {1, api.ErrType}, `TRUE /\ (TRUE \/ 1)`: {2, api.ErrType}, `x' = 1 /\ ((x' = 1 \/ 1) \/ 2)`: {8, api.ErrType},
	} {
		l, at, err := Successors(s, state(t, "0"), expr(t, e))
		if len(l) != 0 || at != want.at || err != want.err {
			t.Errorf("%s: %v %d %d", e, l, at, err)
		}
		if _, at, err := EnabledIn(s, state(t, "0"), expr(t, e)); at != want.at || err != want.err {
			t.Errorf("EnabledIn %s: %d %d", e, at, err)
		}
		if _, at, err := HoldsAt(s, state(t, "0"), expr(t, "ENABLED ("+e+")")); at != want.at || err != want.err {
			t.Errorf("ENABLED %s: %d %d", e, at, err)
		}
		if _, at, err := HoldsFor(s, api.StatePair{From: state(t, "0"), To: state(t, "1")}, expr(t, "("+e+`) \cdot TRUE`)); at != want.at || err != want.err {
			t.Errorf("%s in a step: %d %d", e, at, err)
		}
	}
	for e, at := range map[string]int{`TRUE \/ 1`: 1, `(x = 1 \/ 1) /\ 2`: 3, `A`: 0, `LET a == x = 1 \/ 1 IN a /\ 2`: 3} {
		s.Init = expr(t, e)
		if _, place, err := FirstStates(s); place != at || err != api.ErrType {
			t.Errorf("first %s: %d %d", e, place, err)
		}
	}
	for e, at := range map[string]int{"A": 0, `(x' = 1 /\ (TRUE \/ 1)) \/ A`: 5, "x' = 1 \\/ A": 0} {
		s.Next = expr(t, e)
		if _, place, err := StepsFrom(s, state(t, "0")); place != at || err != api.ErrType {
			t.Errorf("steps %s: %d %d", e, place, err)
		}
	}
}

// ENABLED of an action with too many successors has the error of EnabledIn
func TestEnabledWithTooMany(t *testing.T) {
	s := spec(t, "x", "x = 0", "TRUE", `Many == x' \in 1 .. 101`, `On == ENABLED (x' \in 1 .. 101)`, "Can(A) == ENABLED A")
	x := state(t, "0")
	for e, at := range map[string]int{`ENABLED (x' \in 0 .. 200)`: 5, "ENABLED Many": 0, "On": 0, "Can(Many)": 1, `x = 0 /\ ENABLED (x' \in 1 .. 101 \/ x' = 0)`: 13, "ENABLED [Many]_x": 2, `LET a == x' \in 1 .. 101 IN ENABLED a`: 6, `ENABLED (ENABLED Many /\ x' = 1)`: 0} {
		if _, place, err := HoldsAt(s, x, expr(t, e)); place != at || err != api.ErrLarge {
			t.Errorf("%s: %d %d", e, place, err)
		}
		if _, place, err := HoldsFor(s, api.StatePair{From: x, To: x}, expr(t, e)); place != at || err != api.ErrLarge {
			t.Errorf("in a step %s: %d %d", e, place, err)
		}
	}
	for e, want := range map[string]bool{`x = 1 /\ ENABLED Many`: false, `TRUE \/ ENABLED Many`: true, `ENABLED (x' \in 1 .. 100)`: true, `ENABLED (x' \in 1 .. 100 \/ x' \in 1 .. 100)`: true} {
		if is, _, err := HoldsAt(s, x, expr(t, e)); is != want || err != api.OK {
			t.Errorf("%s: %v %d", e, is, err)
		}
	}
	for e, at := range map[string]int{`x' = 1 /\ ENABLED Many`: 4, `(x' = 1) \cdot (ENABLED Many /\ x' = 1)`: 4} {
		if _, place, err := Successors(s, x, expr(t, e)); place != at || err != api.ErrLarge {
			t.Errorf("successors %s: %d %d", e, place, err)
		}
	}
	if l, _, err := Successors(s, x, expr(t, `(x' \in 1 .. 101) \cdot (x' = 1)`)); show(l) != "1" || err != api.OK {
		t.Error(l, err)
	}
}

// where very many lists are given no state and no error is lost
func TestManyLists(t *testing.T) {
	s := spec(t, "x", "x = 0", "TRUE")
	for e, want := range map[string]string{
		`\E i \in 1 .. 300 : x' \in 1 .. 99`: "#99", `\E i \in 1 .. 300 : x' \in 1 .. 101`: "?2", `x' \in [1 .. 3 -> 1 .. 32]`: "?2", `x' \in [1 .. 3 -> 1 .. 32] \/ TRUE`: "?24", `TRUE \/ x' \in [1 .. 3 -> 1 .. 32]`: "?24", `x' = <<32, 32, 32>> /\ ((x' = 1) \cdot (x' \in [1 .. 3 -> 1 .. 32]))`: "#1", `x' = <<33, 32, 32>> /\ ((x' = 1) \cdot (x' \in [1 .. 3 -> 1 .. 32]))`: "#0", `x' = <<32, 32, 32>> /\ ((x' = 1) \cdot ((x' = 1) \cdot (x' \in [1 .. 3 -> 1 .. 32])))`: "#1",
		`x' = <<32, 32, 32>> /\ ((x' = 1) \cdot (x' \in [1 .. 3 -> 1 .. 32] \/ TRUE))`: "?24", `x' \in 1 .. 1500 /\ x' > 1450`: "#50",
		`(x' \in SUBSET (1 .. 15) \/ 1) /\ TRUE`: "?20", `x' \in SUBSET (1 .. 15) /\ 1`: "?20", `x' \in 1 .. 300 \/ 1`: "?20", `x' \in 1 .. 300 \/ TRUE`: "?24", `TRUE \/ x' \in 1 .. 300`: "?24", `\E i \in 1 .. 300 : x' = 301 - i`: "?2", `\E i \in 1 .. 300 : x' = i % 100`: "#100", `\E i \in 1 .. 300 : x' = 300 - (i % 100)`: "#100", `(\E i \in 1 .. 300 : x' = 300 - (i % 101)) /\ x' # 300`: "#100", `\E i \in 1 .. 20 : x' \in (0 - i) .. 30 /\ x' > 0 - 10`: "#40",
	} {
		l, _, err := Successors(s, state(t, "4"), expr(t, e))
		got := "#" + itoa(len(l))
		if err != api.OK {
			got = "?" + itoa(int(err))
		}
		if got != want {
			t.Errorf("%s: %s", e, got)
		}
	}
	pair := api.StatePair{From: state(t, "0"), To: state(t, "1")}
	for e, want := range map[string]bool{`(x' \in SUBSET (1 .. 15)) \cdot (x = {})`: true, `(x' \in [1 .. 3 -> 1 .. 32] \/ x' = <<0, 0, 0>>) \cdot (x[1] = 0)`: true} {
		if is, _, err := HoldsFor(s, pair, expr(t, e)); is != want || err != api.OK {
			t.Errorf("%s: %v %d", e, is, err)
		}
	}
}

func TestTwoVariables(t *testing.T) {
	s := spec(t, "x y", "x = 0 /\\ y = 0", "TRUE", "F(a, b) == a' = b")
	for e, want := range map[string]string{`\E i \in 1 .. 2 : x' = i /\ y' = x' + i`: "1;2 2;4", `y' = x' /\ x' = 1`: "?24", `x' = 1 /\ y' = x'`: "1;1", "UNCHANGED <<x, y>>": "4;7", "x' = 1": "?24", "FALSE /\\ x' = 1": "", "<<x' = 1 /\\ y' = 2>>_<<x, y>>": "1;2", "[FALSE]_<<x, y>>": "4;7", `x' = 1 /\ (y' = 1 \/ y' = 2)`: "1;1 1;2", "y' = 1 /\\ F(x, 2)": "?24", "[x' = 1]_x": "?24",
		`(x' = 1 /\ y' = x + 5) \cdot (x' = y /\ y' = x)`: "9;1", `x' = 9 /\ ((x' = 1 /\ y' = x + 5) \cdot (x' = y /\ y' = x))`: "9;1", `x' = 8 /\ ((x' = 1 /\ y' = x + 5) \cdot (x' = y /\ y' = x))`: "", `(x' = 1) \cdot (UNCHANGED <<x, y>>)`: "?24", "UNCHANGED x /\\ y' = 1": "4;1", "x' = y /\\ y' = x": "7;4"} {
		l, at, err := Successors(s, state(t, "4;7"), expr(t, e))
		if n, is := strings.CutPrefix(want, "?"); is {
			if n != itoa(int(err)) {
				t.Errorf("%s: %d at %d", e, err, at)
			}
			continue
		}
		if show(l) != want || err != api.OK {
			t.Errorf("%s: %s %d at %d", e, show(l), err, at)
		}
	}
	for e, want := range map[string]int{"x' = 1": 3, `y' = x' /\ x' = 1`: 2, `x' = 1 /\ y' = zz`: 6, "x' = 1 /\\ y' = 2 /\\ 3": 9} {
		if _, at, err := Successors(s, state(t, "4;7"), expr(t, e)); at != want || err == api.OK {
			t.Errorf("%s: %d %d", e, at, err)
		}
	}
	// all of them: the successors among some states are those for which the action holds
	for _, e := range []string{`\E i \in 0 .. 2 : x' = i /\ y' = x' + x`, `[x' = y /\ y' \in 0 .. 2]_<<x, y>>`, `x' \in {0, 1} /\ (IF x' = x THEN y' = 1 ELSE UNCHANGED y)`} {
		from := state(t, "1;0")
		l, _, err := Successors(s, from, expr(t, e))
		for a := range 3 {
			for b := range 3 {
				to := api.State{values.Int(a), values.Int(b)}
				holds, _, err2 := HoldsFor(s, api.StatePair{From: from, To: to}, expr(t, e))
				if is := slices.ContainsFunc(l, func(x api.State) bool { return values.SameState(x, to) }); is != holds || err != api.OK || err2 != api.OK {
					t.Errorf("%s: %v %v %v %d %d", e, to, is, holds, err, err2)
				}
			}
		}
	}
}

func TestHolds(t *testing.T) {
	s := spec(t, "x", "x = 0", "TRUE", "F(a) == a'", "G(a) == (a + x)'")
	pair := api.StatePair{From: state(t, "4"), To: state(t, "6")}
	for e, want := range map[string]string{"x' = 6": "TRUE", "x' = x + 2": "TRUE", "UNCHANGED x": "FALSE", "[FALSE]_x": "FALSE", "[x' = 6]_x": "TRUE", "<<x' = 6>>_x": "TRUE", "<<TRUE>>_(c)": "FALSE", "(x + c)' = 9": "TRUE", "F(x) = 6": "TRUE", "G(x) = 12": "TRUE", "G(c) = 9": "TRUE", "LET a == x IN a' = 6": "TRUE", `\A i \in {x} : i' = 4`: "TRUE", `(x' = 5) \cdot (x' = 6)`: "TRUE", `(x' = 5) \cdot (x' = 7)`: "FALSE", "ENABLED (x' = 1)": "TRUE", "(UNCHANGED x)'": "?18", "x''": "?18", "(ENABLED TRUE)'": "?18", "1": "?20", "WF_x(TRUE)": "?18", `(x' \in {1, 5}) \cdot (x = 5 /\ x' = 6)`: "TRUE"} {
		ok, at, err := HoldsFor(s, pair, expr(t, e))
		if n, is := strings.CutPrefix(want, "?"); is {
			if n != itoa(int(err)) {
				t.Errorf("%s: %d at %d", e, err, at)
			}
			continue
		}
		if ok != (want == "TRUE") || err != api.OK {
			t.Errorf("%s: %v %d at %d", e, ok, err, at)
		}
		if v, _, err := ValueAt(s, pair, expr(t, e)); !values.Same(v, values.Bool(ok)) || err != api.OK {
			t.Errorf("%s: %v %d", e, v, err)
		}
	}
	for e, want := range map[string]api.Errno{"x = 4": api.OK, "x'": api.ErrLevel, "UNCHANGED x": api.ErrLevel, "[TRUE]_x": api.ErrLevel, "<<TRUE>>_x": api.ErrLevel, `TRUE \cdot TRUE`: api.ErrLevel, "ENABLED (x' = 1)": api.OK, "x": api.ErrType, "FALSE /\\ x'": api.OK} {
		if _, _, err := HoldsAt(s, state(t, "4"), expr(t, e)); err != want {
			t.Errorf("%s: %d", e, err)
		}
	}
	if _, at, err := HoldsFor(s, pair, expr(t, "1 + 1")); at != 2 || err != api.ErrType {
		t.Error(at, err)
	}
	if v, _, err := ValueAt(s, pair, expr(t, "x' - x")); v.N != 2 || err != api.OK {
		t.Error(v, err)
	}
	for _, x := range []string{"4", "3"} {
		if ok, _, err := HoldsAt(s, state(t, x), expr(t, "ENABLED (x > 3 /\\ x' = x)")); ok != (x == "4") || err != api.OK {
			t.Error(x, ok, err)
		}
	}
}

func TestFirstStates(t *testing.T) {
	for init, want := range map[string]string{"x = 0 /\\ y = x + 1": "0;1", `x \in {2, 1} /\ y = c`: "1;3 2;3", "y = 1 /\\ x = y": "1;1", "x = y /\\ y = 1": "?24", "x = 0": "?24", "x' = 0": "?18", "ENABLED TRUE": "?18", "UNCHANGED x": "?18", "[TRUE]_x": "?18", `(x = 0 \/ x = 1) /\ y = 0`: "0;0 1;0", `\E i \in {1, 2} : x = i /\ y = i`: "1;1 2;2", "x = 0 /\\ x = 1 /\\ y = 0": "", "F": "5;5", "x \\in 1 .. 11 /\\ y \\in 1 .. 10": "?2", "x = 1 /\\ y = 1 /\\ y": "?20"} {
		s := spec(t, "x y", init, "TRUE", "F == x = 5 /\\ y = 5")
		l, at, err := FirstStates(s)
		if n, is := strings.CutPrefix(want, "?"); is {
			if n != itoa(int(err)) {
				t.Errorf("%s: %d at %d", init, err, at)
			}
			continue
		}
		if show(l) != want || err != api.OK {
			t.Errorf("%s: %s %d at %d", init, show(l), err, at)
		}
	}
}

func TestActions(t *testing.T) {
	s := spec(t, "x", "x = 0", `A \/ B`, "A == x' = 1", "B == x' = 1 \\/ x' = 2")
	l, err := ActionsOf(s)
	var texts []string
	for _, e := range l {
		text, _ := tree.FormatExpr(e)
		texts = append(texts, text)
	}
	if strings.Join(texts, "; ") != "A; x' = 1; x' = 2" || err != api.OK {
		t.Error(texts, err)
	}
	steps, at, err := StepsFrom(s, state(t, "0"))
	if len(steps) != 2 || steps[0].Action != 0 || steps[0].To[0].N != 1 || steps[1].Action != 2 || steps[1].To[0].N != 2 || at != 0 || err != api.OK {
		t.Error(steps, at, err)
	}
	next, _, _ := Successors(s, state(t, "0"), s.Next)
	if show(next) != "1 2" {
		t.Error(next)
	}
	for next, want := range map[string]api.Errno{`A \/ zz \/ L`: api.ErrLoop, strings.Repeat("A \\/ ", 11) + "A": api.OK, strings.Repeat("A \\/ ", 12) + "A": api.ErrLarge, strings.Repeat("A \\/ ", 12) + "A \\/ L": api.ErrLarge, `L \/ ` + strings.Repeat("A \\/ ", 12) + "A": api.ErrLoop, "M": api.OK} {
		s := spec(t, "x", "x = 0", next, "A == x' = 1", "L == A \\/ L", "M == M")
		if _, err := ActionsOf(s); err != want {
			t.Errorf("%s: %d", next, err)
		}
	}
	s = spec(t, "x", "x = 0", `x' = 1 \/ x' = zz`)
	if _, at, err := StepsFrom(s, state(t, "0")); at != 2 || err != api.ErrMissing {
		t.Error(at, err)
	}
	s = spec(t, "x", "x = 0", `x' \in 1 .. 60 \/ x' \in 50 .. 101`)
	if _, at, err := StepsFrom(s, state(t, "0")); at != 0 || err != api.ErrLarge {
		t.Error(at, err)
	}
	s = spec(t, "x", "x = 0", `x' \in 1 .. 60 \/ x' \in 50 .. 100`)
	if l, _, err := StepsFrom(s, state(t, "0")); len(l) != 100 || l[59].Action != 0 || l[60].Action != 1 || err != api.OK {
		t.Error(len(l), err)
	}
}

func TestCheckSpec(t *testing.T) {
	for i, c := range []struct {
		change func(*api.Spec)
		at     int
		err    api.Errno
	}{
		{func(*api.Spec) {}, 0, api.OK}, {func(s *api.Spec) { s.Constants = make([]api.Binding, 9) }, 0, api.ErrLarge}, {func(s *api.Spec) { s.Vars = make([]string, 9) }, 0, api.ErrLarge}, {func(s *api.Spec) { s.Vars = nil }, 0, api.ErrEmpty}, {func(s *api.Spec) { s.Vars[1] = "1" }, 1, api.ErrName}, {func(s *api.Spec) { s.Vars[1] = "x" }, 1, api.ErrExists}, {func(s *api.Spec) { s.Vars[1] = "c" }, 1, api.ErrExists},
		{func(s *api.Spec) { s.Constants[0].Value.N = 20000 }, 0, api.ErrRange}, {func(s *api.Spec) { s.Defs[1].Body = nil }, 1, api.ErrEmpty}, {func(s *api.Spec) { s.Defs[1].Name = "x" }, 1, api.ErrExists}, {func(s *api.Spec) { s.Init = nil }, 0, api.ErrEmpty}, {func(s *api.Spec) { s.Next = api.Expr{{Kind: -1}} }, 0, api.ErrKind}, {func(s *api.Spec) { s.Defs[1].Name = "c" }, 1, api.ErrExists},
	} {
		s := spec(t, "x y", "x = 0 /\\ y = 0", "TRUE", "A == 1", "B == 2")
		c.change(&s)
		x := state(t, "0;0")
		if at, err := CheckSpec(s); at != c.at || err != c.err {
			t.Errorf("%d: %d %d", i, at, err)
		}
		if c.err == api.OK {
			continue
		}
		e := expr(t, "TRUE")
		_, _, e1 := HoldsAt(s, x, e)
		_, _, e2 := HoldsFor(s, api.StatePair{From: x, To: x}, e)
		_, _, e3 := FirstStates(s)
		_, _, e4 := Successors(s, x, e)
		_, _, e5 := EnabledIn(s, x, e)
		_, e6 := ActionsOf(s)
		_, _, e7 := StepsFrom(s, x)
		_, _, e8 := ValueAt(s, api.StatePair{From: x, To: x}, e)
		for _, e := range []api.Errno{CheckState(s, x), e1, e2, e3, e4, e5, e6, e7, e8} {
			if e != c.err {
				t.Errorf("%d: %d", i, e)
			}
		}
	}
	s := spec(t, "x", "x = 0", "TRUE")
	bad := api.State{values.Int(20000)}
	e := expr(t, "TRUE")
	_, _, e1 := HoldsFor(s, api.StatePair{From: state(t, "1"), To: nil}, nil)
	_, _, e2 := Successors(s, bad, e)
	_, _, e3 := StepsFrom(s, nil)
	_, _, e4 := HoldsAt(s, state(t, "1"), nil)
	if e1 != api.ErrShape || e2 != api.ErrRange || e3 != api.ErrShape || e4 != api.ErrEmpty || CheckState(s, bad) != api.ErrRange || CheckState(s, nil) != api.ErrShape {
		t.Error(e1, e2, e3, e4)
	}
}
