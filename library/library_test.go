package library

import (
	"slices"
	"strings"
	"testing"

	"stutter/api"
	"stutter/eval"
	"stutter/exprs"
	"stutter/tree"
	"stutter/value"
	"stutter/values"
)

func read(t *testing.T, s string) api.Value {
	t.Helper()
	v, at, err := value.ParseValue(s)
	if err != api.OK {
		t.Fatalf("%s: %d %d", s, at, err)
	}
	return v
}

// all reads values with ";" between.
func all(t *testing.T, s string) (out []api.Value) {
	if s == "" {
		return nil
	}
	for _, x := range strings.Split(s, ";") {
		out = append(out, read(t, x))
	}
	return out
}

func TestModules(t *testing.T) {
	if !slices.Equal(Modules(), []string{"Naturals", "Integers", "Sequences", "FiniteSets", "Bags", "TLC"}) {
		t.Error(Modules())
	}
	for m, want := range map[string]string{"Naturals": "+2 -2 *2 ^2 \\div2 %2 ..2 <2 <=2 >2 >=2", "Integers": "-.1", "Sequences": "Len1 Head1 Tail1 Append2 \\o2 SubSeq3", "FiniteSets": "Cardinality1 IsFiniteSet1", "Bags": "EmptyBag0 SetToBag1 BagToSet1 BagIn2 CopiesIn2 (+)2 (-)2 \\sqsubseteq2 BagCardinality1", "TLC": ":>2 @@2 Permutations1 ToString1 Assert2"} {
		l, err := OperatorsOf(m)
		var got []string
		for _, o := range l {
			if o.Module != m {
				t.Error(o)
			}
			got = append(got, o.Name+string(rune('0'+o.Arity)))
		}
		if strings.Join(got, " ") != want || err != api.OK {
			t.Errorf("%s: %v %d", m, got, err)
		}
	}
	for m, want := range map[string]string{"Naturals": "", "Integers": "Naturals", "Sequences": "Naturals", "FiniteSets": "Naturals", "Bags": "FiniteSets Naturals", "TLC": "FiniteSets Naturals Sequences"} {
		if l, err := ExtendedBy(m); strings.Join(l, " ") != want || err != api.OK {
			t.Errorf("%s: %v %d", m, l, err)
		}
	}
	_, e1 := OperatorsOf("Reals")
	_, e2 := ExtendedBy("")
	if e1 != api.ErrMissing || e2 != api.ErrMissing {
		t.Error(e1, e2)
	}
}

var samples = []struct{ name, args, want string }{
	{"+", "2;3", "5"}, {"-", "2;3", "-1"}, {"*", "2;3", "6"}, {"^", "2;3", "8"}, {"^", "2;0", "1"}, {`\div`, "-7;2", "-4"}, {"%", "-7;2", "1"}, {"%", "7;2", "1"}, {"..", "2;4", "{2, 3, 4}"}, {"..", "3;2", "{}"}, {"<", "1;2", "TRUE"}, {"<=", "2;2", "TRUE"}, {">", "1;2", "FALSE"}, {">=", "2;2", "TRUE"}, {"<", "2;2", "FALSE"}, {"-.", "5", "-5"},
	{"Len", "<<5, 6>>", "2"}, {"Len", "<<>>", "0"}, {"Head", "<<5, 6>>", "5"}, {"Tail", "<<5, 6>>", "<<6>>"}, {"Tail", "<<5>>", "<<>>"}, {"Append", "<<5>>;{}", "<<5, {}>>"}, {`\o`, "<<5>>;<<6, 7>>", "<<5, 6, 7>>"}, {"SubSeq", "<<5, 6, 7>>;2;3", "<<6, 7>>"}, {"SubSeq", "<<5>>;2;1", "<<>>"}, {"SubSeq", "<<5>>;7;-3", "<<>>"}, {"SubSeq", "<<5, 6>>;1;2", "<<5, 6>>"},
	{"Cardinality", "{1, 5, {2}}", "3"}, {"Cardinality", "{}", "0"}, {"Cardinality", "{1, 2, 3, 4, 5, 6}", "6"}, {"EmptyBag", "", "<<>>"}, {"SetToBag", "{1, a}", "(1 :> 1 @@ a :> 1)"}, {"BagToSet", "(1 :> 2 @@ 4 :> 1)", "{1, 4}"}, {"BagIn", "1;(1 :> 2 @@ 4 :> 1)", "TRUE"}, {"BagIn", "2;(1 :> 2 @@ 4 :> 1)", "FALSE"}, {"CopiesIn", "1;(1 :> 2 @@ 4 :> 1)", "2"}, {"CopiesIn", "2;<<>>", "0"}, {"CopiesIn", "<<1>>;(<<1>> :> 3)", "3"},
	{"(+)", "(1 :> 2 @@ 4 :> 1);<<1>>", "(1 :> 3 @@ 4 :> 1)"}, {"(-)", "(1 :> 2 @@ 4 :> 1);<<1>>", "(1 :> 1 @@ 4 :> 1)"}, {"(-)", "(1 :> 2 @@ 4 :> 1);<<2, 5>>", "(4 :> 1)"}, {`\sqsubseteq`, "<<1>>;<<2, 1>>", "TRUE"}, {`\sqsubseteq`, "<<3>>;<<2, 1>>", "FALSE"}, {`\sqsubseteq`, "(5 :> 1);<<2, 1>>", "FALSE"}, {"BagCardinality", "(1 :> 2 @@ 4 :> 1 @@ 5 :> 3 @@ 6 :> 1 @@ 7 :> 1 @@ 8 :> 1)", "9"}, {"BagCardinality", "<<>>", "0"},
	{":>", "1;2", "<<2>>"}, {":>", "{};2", "({} :> 2)"}, {"@@", "<<5>>;<<6, 7>>", "<<5, 7>>"}, {"@@", "<<>>;<<6, 7>>", "<<6, 7>>"},
	{"IsFiniteSet", "{}", "TRUE"}, {"IsFiniteSet", "3", "FALSE"}, {"Permutations", "{m, n}", "{(m :> m @@ n :> n), (m :> n @@ n :> m)}"}, {"Permutations", "{}", "{<<>>}"}, {"ToString", "<<1, {}>>", `"<<1, {}>>"`}, {"Assert", `TRUE;"a"`, "TRUE"},
}

func TestApplied(t *testing.T) {
	for _, c := range samples {
		v, err := Applied(c.name, all(t, c.args))
		if got, _ := value.FormatValue(v); got != c.want || err != api.OK {
			t.Errorf("%v: %s %d", c, got, err)
		}
	}
	for _, c := range []struct {
		name, args string
		want       api.Errno
	}{{"zz", "1", api.ErrMissing}, {"Nat", "", api.ErrMissing}, {"+", "1", api.ErrArity}, {"EmptyBag", "1", api.ErrArity}, {"+", "a;1", api.ErrType}, {"+", "1;{}", api.ErrType}, {"^", "2;-1", api.ErrRange}, {"^", "0;0", api.ErrRange}, {`\div`, "1;0", api.ErrZero}, {"%", "1;-2", api.ErrZero}, {"+", "10000;1", api.ErrOverflow}, {"^", "10;5", api.ErrOverflow}, {"-", "-10000;1", api.ErrOverflow}, {"..", "1;201", api.ErrLarge},
		{"Head", "<<>>", api.ErrEmpty}, {"Tail", "<<>>", api.ErrEmpty}, {"Head", "(0 :> 1)", api.ErrType}, {"Len", "{}", api.ErrType}, {"SubSeq", "<<5>>;0;1", api.ErrRange}, {"SubSeq", "<<5>>;1;2", api.ErrRange}, {"SubSeq", "<<5>>;a;{}", api.ErrType}, {"Append", "1;2", api.ErrType}, {`\o`, "<<>>;1", api.ErrType}, {"Cardinality", "1", api.ErrType}, {"BagToSet", "<<0>>", api.ErrType}, {"BagToSet", "<<a>>", api.ErrType}, {"SetToBag", "1", api.ErrType}, {"BagIn", "1;1", api.ErrType}, {"(+)", "<<10000>>;<<1>>", api.ErrOverflow}, {"BagCardinality", "<<10000, 1>>", api.ErrOverflow},
		{"@@", "1;<<>>", api.ErrType}, {"Permutations", "{1, 2, 3, 4, 5}", api.ErrLarge}, {"Permutations", "{1, 2, 3, {{4}}}", api.ErrLarge}, {"Permutations", "1", api.ErrType}, {"ToString", "{1111, 2222, 3333, 4444, 5555, 6666, 7777}", api.ErrLarge}, {"Assert", `FALSE;"a"`, api.ErrBroken}, {"Assert", `1;"a"`, api.ErrType}, {"Assert", `FALSE;1`, api.ErrType}, {":>", "1;{{{{{{{1}}}}}}}", api.ErrLarge}, {"..", "1;200", api.OK}} {
		if _, err := Applied(c.name, all(t, c.args)); err != c.want {
			t.Errorf("%v: %d", c, err)
		}
	}
	if _, err := Applied("+", []api.Value{values.Model("a"), values.Int(20000)}); err != api.ErrForm {
		t.Error(err)
	}
	long := values.Tuple(slices.Repeat([]api.Value{values.Int(1)}, 100)...)
	if _, err := Applied(`\o`, []api.Value{long, long}); err != api.ErrLarge {
		t.Error(err)
	}
}

func TestDefinitions(t *testing.T) {
	none := []string{"IsFiniteSet", "Permutations", "ToString", "Assert"}
	for _, c := range samples {
		defs, err := DefinitionsFor(c.name)
		d, err2 := DefinitionOf(c.name)
		if slices.Contains(none, c.name) {
			if err != api.ErrNone || err2 != api.ErrNone {
				t.Errorf("%s: %d %d", c.name, err, err2)
			}
			continue
		}
		context := api.Context{Defs: defs}
		var operands []api.Expr
		for i, v := range all(t, c.args) {
			p := "a" + string(rune('1'+i))
			context.Values = append(context.Values, api.Binding{Name: p, Value: v})
			operands = append(operands, exprs.Name(p))
		}
		e := exprs.Name(d.Name)
		if len(operands) > 0 {
			e = exprs.Apply(d.Name, operands...)
		}
		r, err3 := eval.ValueOf(context, e)
		if got, _ := value.FormatValue(r.Value); got != c.want || err != api.OK || err2 != api.OK || err3 != api.OK {
			t.Errorf("%v: %s %d %d %d", c, got, err, err2, err3)
		}
	}
	for name, want := range map[string]string{"+": "Lib1", "Tail": "Lib13 Lib15", "(-)": "Lib25 Lib27", "@@": "Lib31", "-.": "Lib12"} {
		l, _ := DefinitionsFor(name)
		var got []string
		for _, d := range l {
			got = append(got, d.Name)
		}
		if strings.Join(got, " ") != want {
			t.Errorf("%s: %v", name, got)
		}
	}
	d, _ := DefinitionOf(`\o`)
	if s, _ := tree.FormatExpr(d.Body); s != `p1 \o p2` || !slices.Equal(d.Params, []string{"p1", "p2"}) || len(d.Arities) != 2 {
		t.Errorf("%s %v", s, d)
	}
	if d, _ := DefinitionOf("-."); exprs.Same(d.Body, exprs.Apply("-.", exprs.Name("p1"))) == false {
		t.Error(d)
	}
	_, e1 := DefinitionOf("zz")
	_, e2 := DefinitionsFor("zz")
	if e1 != api.ErrMissing || e2 != api.ErrMissing {
		t.Error(e1, e2)
	}
}

func TestKinds(t *testing.T) {
	for s, want := range map[string][2]bool{"<<>>": {true, true}, "<<1>>": {true, true}, "<<0>>": {true, false}, "(0 :> 1)": {false, true}, "1": {false, false}, "{}": {false, false}, "<<a>>": {true, false}} {
		a, e1 := IsSequence(read(t, s))
		b, e2 := IsBag(read(t, s))
		if a != want[0] || b != want[1] || e1 != api.OK || e2 != api.OK {
			t.Errorf("%s: %v %v", s, a, b)
		}
	}
	_, e1 := IsSequence(values.Int(20000))
	_, e2 := IsBag(values.Int(20000))
	if e1 != api.ErrForm || e2 != api.ErrForm {
		t.Error(e1, e2)
	}
	l, err := SortedBy(all(t, "a;b;c;d"), []int{2, 1, 2, 1})
	if s, _ := value.FormatValue(values.Tuple(l...)); s != "<<b, d, a, c>>" || err != api.OK {
		t.Error(s, err)
	}
	_, e1 = SortedBy(make([]api.Value, 201), nil)
	_, e2 = SortedBy([]api.Value{{Kind: 9}}, nil)
	_, e3 := SortedBy([]api.Value{{Kind: 9}}, []int{1})
	if e1 != api.ErrLarge || e2 != api.ErrShape || e3 != api.ErrForm {
		t.Error(e1, e2, e3)
	}
}

func TestConsequences(t *testing.T) {
	run := func(name string, a ...api.Value) api.Value {
		v, err := Applied(name, a)
		if err != api.OK {
			t.Fatalf("%s: %d", name, err)
		}
		return v
	}
	s := read(t, "<<4, 5, 6>>")
	if !values.Same(run(`\o`, run("Append", values.Tuple(), run("Head", s)), run("Tail", s)), s) || !values.Same(run("SubSeq", s, values.Int(1), run("Len", s)), s) {
		t.Error("sequences")
	}
	for a := -20; a <= 20; a++ {
		for b := 1; b <= 5; b++ {
			x, y := values.Int(a), values.Int(b)
			if run("+", run("*", y, run(`\div`, x, y)), run("%", x, y)).N != a {
				t.Error(a, b)
			}
		}
	}
	b, c := read(t, "(1 :> 2 @@ 4 :> 1)"), read(t, "(1 :> 1 @@ 5 :> 3)")
	if !values.Same(run("(-)", run("(+)", b, c), c), b) || run(`\sqsubseteq`, b, run("(+)", b, c)).N != 1 || run("BagCardinality", run("(+)", b, c)).N != 7 || !values.Same(run("BagToSet", run("SetToBag", read(t, "{1, 2}"))), read(t, "{1, 2}")) {
		t.Error("bags")
	}
	if !values.Same(run("@@", b, b), b) || len(run("Permutations", read(t, "{1, 2, 3, 4}")).Items) != 24 {
		t.Error("functions")
	}
}
