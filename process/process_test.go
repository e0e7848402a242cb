package process

import (
	"reflect"
	"slices"
	"strconv"
	"strings"
	"testing"

	"stutter/api"
	"stutter/parse"
	"stutter/pluscal"
	"stutter/value"
	"stutter/values"
)

func program(t *testing.T, s string) api.PlusProgram {
	t.Helper()
	a, p, err := pluscal.ParseAlgorithm(strings.Split(strings.ReplaceAll(s, "; ", ";\n"), "\n"))
	if err != api.OK {
		t.Fatalf("%s: %v %d", s, p, err)
	}
	return api.PlusProgram{Algorithm: a, Constants: []api.Binding{{Name: "c", Value: values.Int(7)}}}
}

func read(t *testing.T, s string) api.Value {
	t.Helper()
	v, _, err := value.ParseValue(s)
	if err != api.OK {
		t.Fatal(s)
	}
	return v
}

func state(t *testing.T, s string) api.State {
	var out api.State
	for _, x := range strings.Split(s, "; ") {
		out = append(out, read(t, x))
	}
	return out
}

func show(l ...api.State) string {
	var out []string
	for _, x := range l {
		var texts []string
		for _, v := range x {
			s, _ := value.FormatValue(v)
			texts = append(texts, s)
		}
		out = append(out, strings.Join(texts, "; "))
	}
	return strings.Join(out, " | ")
}

const counter = "--algorithm C variables x = 0; begin A: while x < 2 do x := x + 1; end while; end algorithm"

const pair = "--algorithm C variables x = 0; process P \\in {1, 2} begin A: either x := self; or skip; end either; end process; end algorithm"

const caller = "--algorithm C variables x = 0; procedure inc(n) begin I: x := x + n; return; end procedure; begin A: call inc(5); B: skip; end algorithm"

func TestPrograms(t *testing.T) {
	for s, want := range map[string]string{counter: "x pc", pair: "x pc", caller: "x pc stack n", "--algorithm C variables x; process p = 1 variables l = self; begin A: skip; end process; process q \\in {2} variables m = x; begin B: skip; end process; end algorithm": "x pc l m"} {
		if l, err := VarsOf(program(t, s)); strings.Join(l, " ") != want || err != api.OK {
			t.Errorf("%s: %v %d", s, l, err)
		}
	}
	if l, err := IdentitiesOf(program(t, pair)); show(l) != "1; 2" || err != api.OK {
		t.Error(l, err)
	}
	if l, err := IdentitiesOf(program(t, counter)); show(l) != "<<>>" || err != api.OK {
		t.Error(l, err)
	}
	one := func(s string) string { return "--algorithm C " + s + " end algorithm" }
	process := func(s string) string { return one("process p " + s + " begin A: skip; end process;") }
	for s, want := range map[string]api.Errno{
		one("variables c = 1; begin A: skip;"): api.ErrExists, one("begin A: with c = 1 do skip; end with;"): api.ErrExists,
		one("macro m() begin with c = 1 do skip; end with; end macro; begin A: skip;"): api.ErrExists, one("macro m() begin if TRUE then with w = 1 do with c \\in {w} do skip; end with; end with; end if; end macro; begin A: skip;"): api.ErrExists, one("macro m() begin with c = 1 do skip; end with; end macro; begin A: m();"): api.ErrExists, one("macro m(c) begin with w = c do skip; end with; end macro; begin A: m(3);"): api.OK, one("macro c() begin skip; end macro; begin A: skip;"): api.ErrExists, one("procedure P() begin B: with c = 1 do skip; end with; return; end procedure; begin A: skip;"): api.ErrExists, one("process p = 1 begin A: with c = 1 do skip; end with; end process;"): api.ErrExists,
		one("define D == zz end define; begin A: skip;"): api.ErrMissing, one("define D(u) == u + c + Nat end define; begin A: skip;"): api.OK, one("variables l = 0; procedure P(n) begin I: return; end procedure; begin A: skip;"): api.OK,
		one("variables a1, a2, a3, a4, a5, a6, a7, a8; begin A: skip;"): api.ErrLarge, process("\\in {1, 2}"): api.OK, process("\\in 5"): api.ErrType, process("= zz"): api.ErrMissing, process("\\in 1 .. 7"): api.ErrLarge, process("\\in {}"): api.ErrEmpty, one("process p = 1 begin A: skip; end process; process q \\in {1, 2} begin B: skip; end process;"): api.ErrExists, one("define c == 1 end define; begin A: skip;"): api.ErrExists, process("\\in Nat"): api.ErrUnbounded,
	} {
		p := program(t, s)
		if err := CheckProgram(p); err != want {
			t.Errorf("%s: %d", s, err)
		}
		_, e1 := VarsOf(p)
		_, e2 := IdentitiesOf(p)
		if e1 != want || e2 != want {
			t.Errorf("%s: %d %d", s, e1, e2)
		}
		if want == api.OK {
			continue
		}
		_, e1 = FirstStates(p)
		_, e2 = LabelAt(p, nil, api.Value{})
		_, e3 := StepsOf(p, nil, api.Value{})
		_, e4 := StepsFrom(p, nil)
		_, e5 := ValueIn(p, nil, api.Value{}, nil)
		_, e6 := IsDone(p, nil)
		_, e7 := RunOf(p, []int{-1})
		for _, e := range []api.Errno{e1, e2, e3, e4, e5, e6, e7, CheckState(p, nil)} {
			if e != want {
				t.Errorf("%s: %d", s, e)
			}
		}
	}
	bad := program(t, counter)
	bad.Constants[0].Name = "self"
	if err := CheckProgram(bad); err != api.ErrExists {
		t.Error(err)
	}
	bad.Constants[0].Name = "1"
	if err := CheckProgram(bad); err != api.ErrName {
		t.Error(err)
	}
	bad.Algorithm.Name = ""
	if err := CheckProgram(bad); err != api.ErrName {
		t.Error(err)
	}
}

func TestFirstStates(t *testing.T) {
	for s, want := range map[string]string{
		counter: `0; "A"`, pair: `0; <<"A", "A">>`, caller: `0; "A"; <<>>; defaultInitValue`,
		"--algorithm C variables x \\in {2, 1}, y = x + c, z; begin A: skip; end algorithm":                                                                                                            `1; 8; defaultInitValue; "A" | 2; 9; defaultInitValue; "A"`,
		"--algorithm C variables x = 0; process p \\in {2, 3} variables l \\in {self, c}; begin A: skip; end process; process q = 5 variables m = self + 1; begin B: skip; end process; end algorithm": `0; (2 :> "A" @@ 3 :> "A" @@ 5 :> "B"); (2 :> 2 @@ 3 :> 3); 6 | 0; (2 :> "A" @@ 3 :> "A" @@ 5 :> "B"); (2 :> 2 @@ 3 :> 7); 6 | 0; (2 :> "A" @@ 3 :> "A" @@ 5 :> "B"); (2 :> 7 @@ 3 :> 3); 6 | 0; (2 :> "A" @@ 3 :> "A" @@ 5 :> "B"); (2 :> 7 @@ 3 :> 7); 6`,
		"--algorithm C variables x \\in {}; begin A: skip; end algorithm":                                                                                                                              "", "--algorithm C variables x = y, y = 0; begin A: skip; end algorithm": "?10", "--algorithm C variables x \\in 5; begin A: skip; end algorithm": "?20", "--algorithm C variables x \\in 1 .. 101; begin A: skip; end algorithm": "?2", "--algorithm C variables x = self; process p = 1 begin A: skip; end process; end algorithm": "?10", "--algorithm C variables x \\in Nat; begin A: skip; end algorithm": "?23",
	} {
		l, err := FirstStates(program(t, s))
		if n, is := strings.CutPrefix(want, "?"); is {
			if n != strconv.Itoa(int(err)) {
				t.Errorf("%s: %d", s, err)
			}
			continue
		}
		if show(l...) != want || err != api.OK {
			t.Errorf("%s: %s %d", s, show(l...), err)
		}
	}
}

func TestSteps(t *testing.T) {
	body := func(s string) string {
		return "--algorithm C variables x = 1, f = <<5, 6>>; begin A: " + s + " end algorithm"
	}
	for s, want := range map[string]string{
		"skip;": `1; <<5, 6>>; "Done"`, "x := 2; B: skip;": `2; <<5, 6>>; "B"`, "x := 2 || f[x] := x;": `2; <<1, 6>>; "Done"`, "f[1] := f[2] || f[2] := f[1];": `1; <<6, 5>>; "Done"`, "f[9] := 1;": `1; <<5, 6>>; "Done"`, "x[1] := 2;": "?20", "if x = 1 then x := 5; else x := 6; end if;": `5; <<5, 6>>; "Done"`, "if x = 2 then x := 5; end if; f := x;": `1; 1; "Done"`, "either x := 3; or x := 2; or x := 3; end either;": `2; <<5, 6>>; "Done" | 3; <<5, 6>>; "Done"`,
		"with y \\in {3, 2} do x := y; end with;": `2; <<5, 6>>; "Done" | 3; <<5, 6>>; "Done"`, "with y = x + 1 do x := y; end with;": `2; <<5, 6>>; "Done"`, "with y \\in {} do skip; end with;": "", "with y \\in 5 do skip; end with;": "?20", "await FALSE;": "", "await x = 1;": `1; <<5, 6>>; "Done"`, "await 1;": "?20", "assert x = 2;": "?31", "assert 1;": "?20", "assert TRUE;": `1; <<5, 6>>; "Done"`, "while x = 2 do skip; end while; x := 7;": `7; <<5, 6>>; "Done"`, "while x = 1 do x := 2; end while;": `2; <<5, 6>>; "A"`, "while x = 1 do either goto B; or skip; end either; end while; B: skip;": `1; <<5, 6>>; "A" | 1; <<5, 6>>; "B"`,
		"goto A;": `1; <<5, 6>>; "A"`, "with y = 1 do skip; end with; x := y;": "?10", "x := self;": "?10", "with y \\in 1 .. 61 do x := y; end with;": "?2", "with y \\in 1 .. 60 do skip; end with;": `1; <<5, 6>>; "Done"`, "f := <<1 .. 150, 1 .. 150>>;": "?2", "x := c;": `7; <<5, 6>>; "Done"`, "either await FALSE; or x := 9; end either;": `9; <<5, 6>>; "Done"`, "with u \\in 1 .. 40 do with v \\in 1 .. 40 do await FALSE; end with; end with;": "?2",
	} {
		l, err := StepsOf(program(t, body(s)), state(t, `1; <<5, 6>>; "A"`), values.Tuple())
		if n, is := strings.CutPrefix(want, "?"); is {
			if n != strconv.Itoa(int(err)) {
				t.Errorf("%s: %d", s, err)
			}
			continue
		}
		if show(l...) != want || err != api.OK {
			t.Errorf("%s: %s %d", s, show(l...), err)
		}
	}
	p := program(t, pair)
	if l, err := StepsOf(p, state(t, `0; <<"A", "A">>`), values.Int(2)); show(l...) != `0; <<"A", "Done">> | 2; <<"A", "Done">>` || err != api.OK {
		t.Error(show(l...), err)
	}
	all, err := StepsFrom(p, state(t, `0; <<"A", "A">>`))
	if len(all) != 4 || all[1].Self.N != 1 || all[1].Label != "A" || all[2].Self.N != 2 || err != api.OK {
		t.Error(all, err)
	}
	if l, err := StepsOf(p, state(t, `0; <<"Done", "Error">>`), values.Int(1)); len(l) != 0 || err != api.OK {
		t.Error(l, err)
	}
	local := program(t, "--algorithm C process p \\in {1, 2} variables l = self; begin A: l := l + 1; B: l := Len2; end process; process q = 3 variables m = 0; begin D: m := l[2]; end process; end algorithm")
	if l, err := StepsOf(local, state(t, `<<"A", "A", "D">>; <<1, 2>>; 0`), values.Int(2)); show(l...) != `<<"A", "B", "D">>; <<1, 3>>; 0` || err != api.OK {
		t.Error(show(l...), err)
	}
	if l, err := StepsOf(local, state(t, `<<"A", "A", "D">>; <<1, 2>>; 0`), values.Int(3)); show(l...) != `<<"A", "A", "Done">>; <<1, 2>>; 2` || err != api.OK {
		t.Error(show(l...), err)
	}
}

func TestCalls(t *testing.T) {
	p := program(t, caller)
	first := state(t, `0; "A"; <<>>; defaultInitValue`)
	l, err := StepsOf(p, first, values.Tuple())
	if show(l...) != `0; "I"; <<[n |-> defaultInitValue, pc |-> "B", procedure |-> "inc"]>>; 5` || err != api.OK {
		t.Error(show(l...), err)
	}
	if s, err := LabelAt(p, l[0], values.Tuple()); s != "I" || err != api.OK {
		t.Error(s, err)
	}
	k, err := StepsOf(p, l[0], values.Tuple())
	if show(k...) != `5; "B"; <<>>; defaultInitValue` || err != api.OK {
		t.Error(show(k...), err)
	}
	if _, err := StepsOf(p, state(t, `0; "I"; <<>>; 1`), values.Tuple()); err != api.ErrState {
		t.Error(err)
	}
	q := program(t, "--algorithm C procedure P(a) variables l = a + self; begin I: skip; end procedure; procedure Q() begin J: return; end procedure; process p \\in {1, 2} begin A: call P(c); end process; end algorithm")
	l, err = StepsOf(q, state(t, `<<"A", "A">>; <<<<>>, <<>>>>; <<0, 0>>; <<0, 0>>`), values.Int(2))
	if show(l...) != `<<"A", "I">>; <<<<>>, <<[a |-> 0, l |-> 0, pc |-> "Done", procedure |-> "P"]>>>>; <<0, 7>>; <<0, 9>>` || err != api.OK {
		t.Error(show(l...), err)
	}
	k, err = StepsOf(q, l[0], values.Int(2))
	if !strings.HasPrefix(show(k...), `<<"A", "Error">>`) || err != api.OK {
		t.Error(show(k...), err)
	}
	wrong := values.CloneAll(l[0])
	wrong[0] = read(t, `<<"A", "J">>`)
	if _, err := StepsOf(q, wrong, values.Int(2)); err != api.ErrState {
		t.Error(err)
	}
	for s, want := range map[string]api.Errno{`0; "A"; <<>>; 1`: api.OK, `0; "A"; <<>>`: api.ErrShape, `0; "I"; <<[n |-> 1, pc |-> "B", procedure |-> "inc"]>>; 1`: api.OK, `0; "X"; <<>>; 1`: api.ErrType, `0; 5; <<>>; 1`: api.ErrType, `0; "A"; 5; 1`: api.ErrType, `0; "A"; <<5>>; 1`: api.ErrType, `0; "A"; <<[n |-> 1, pc |-> "X", procedure |-> "inc"]>>; 1`: api.ErrType, `0; "A"; <<[pc |-> "B", procedure |-> "inc"]>>; 1`: api.ErrType, `0; "A"; <<[n |-> 1, pc |-> "B", procedure |-> "no"]>>; 1`: api.ErrType, `0; "Error"; <<>>; 1`: api.OK} {
		if err := CheckState(p, state(t, s)); err != want {
			t.Errorf("%s: %d", s, err)
		}
	}
	if err := CheckState(p, api.State{{Kind: 9}, {}, {}, {}}); err != api.ErrForm {
		t.Error(err)
	}
	if err := CheckState(program(t, pair), state(t, `0; (1 :> "A" @@ 3 :> "A")`)); err != api.ErrType {
		t.Error(err)
	}
}

func expr(t *testing.T, s string) api.Expr {
	e, _, err := parse.ParseExpr([]string{s})
	if err != api.OK {
		t.Fatal(s)
	}
	return e
}

func TestLooking(t *testing.T) {
	q := program(t, "--algorithm C variables x = 3; procedure P(a) begin I: return; end procedure; process p \\in {1, 2} variables l = 0; begin A: call P(1); end process; end algorithm")
	s := state(t, `3; <<"A", "A">>; <<<<>>, <<>>>>; <<5, 6>>; <<8, 9>>`)
	for e, want := range map[string]string{"x + self": "5", "l": "9", "a": "6", "pc[1]": `"A"`, "c": "7"} {
		if v, err := ValueIn(q, s, values.Int(2), expr(t, e)); show(api.State{v}) != want || err != api.OK {
			t.Errorf("%s: %v %d", e, v, err)
		}
	}
	_, e1 := ValueIn(q, s, values.Int(3), expr(t, "x"))
	_, e2 := ValueIn(q, s, values.Int(2), nil)
	_, e3 := ValueIn(q, s, values.Int(2), expr(t, "zz"))
	_, e4 := LabelAt(q, s, values.Int(3))
	_, e5 := StepsOf(q, nil, values.Int(3))
	if e1 != api.ErrMissing || e2 != api.ErrEmpty || e3 != api.ErrMissing || e4 != api.ErrMissing || e5 != api.ErrShape {
		t.Error(e1, e2, e3, e4, e5)
	}
	p := program(t, pair)
	for s, want := range map[string]bool{`0; <<"Done", "Done">>`: true, `0; <<"Done", "A">>`: false, `0; <<"Done", "Error">>`: false} {
		if is, err := IsDone(p, state(t, s)); is != want || err != api.OK {
			t.Errorf("%s: %v %d", s, is, err)
		}
	}
}

func TestRuns(t *testing.T) {
	r, err := RunOf(program(t, counter), []int{0, 3, 0, 0, 9})
	if show(r.States...) != `0; "A" | 1; "A" | 2; "A" | 2; "Done"` || r.Status != api.PlusDone || len(r.Steps) != 3 || err != api.OK {
		t.Error(r, err)
	}
	r, err = RunOf(program(t, counter), []int{0})
	if len(r.States) != 2 || r.Status != api.PlusRunning || err != api.OK {
		t.Error(r, err)
	}
	r, err = RunOf(program(t, pair), []int{3, 5})
	if show(r.States...) != `0; <<"A", "A">> | 2; <<"A", "Done">> | 2; <<"Done", "Done">>` || r.Status != api.PlusDone || err != api.OK {
		t.Error(show(r.States...), err)
	}
	blocked := "--algorithm C begin A: await FALSE; end algorithm"
	if r, err := RunOf(program(t, blocked), []int{1}); r.Status != api.PlusBlocked || len(r.States) != 1 || err != api.OK {
		t.Error(r, err)
	}
	_, e1 := RunOf(program(t, counter), make([]int, 61))
	_, e2 := RunOf(program(t, counter), []int{-1})
	_, e3 := RunOf(program(t, "--algorithm C variables x \\in {}; begin A: skip; end algorithm"), nil)
	_, e4 := RunOf(program(t, "--algorithm C begin A: assert FALSE; end algorithm"), nil)
	_, e5 := RunOf(program(t, "--algorithm C variables x = zz; begin A: skip; end algorithm"), nil)
	if e1 != api.ErrLarge || e2 != api.ErrRange || e3 != api.ErrNone || e4 != api.ErrBroken || e5 != api.ErrMissing {
		t.Error(e1, e2, e3, e4, e5)
	}
	for _, s := range []string{counter, pair, caller} { // printed and read it is the same
		p := program(t, s)
		q := p
		lines, _ := pluscal.FormatShort(p.Algorithm)
		q.Algorithm, _, _ = pluscal.ParseAlgorithm(lines)
		a, e1 := RunOf(p, []int{1, 2, 3, 4})
		b, e2 := RunOf(q, []int{1, 2, 3, 4})
		if !reflect.DeepEqual(a, b) || e1 != api.OK || e2 != api.OK {
			t.Error(s, a, b)
		}
		for i, step := range a.Steps {
			all, _ := StepsFrom(p, a.States[i])
			if !slices.ContainsFunc(all, func(x api.PlusStep) bool { return reflect.DeepEqual(x, step) }) {
				t.Error(s, step)
			}
		}
	}
}
