package types

import (
	"slices"
	"strconv"
	"strings"
	"testing"

	"stutter/api"
	"stutter/eval"
	"stutter/exprs"
	"stutter/parse"
	"stutter/value"
)

func expr(t *testing.T, s string) api.Expr {
	t.Helper()
	e, p, err := parse.ParseExpr([]string{s})
	if err != api.OK {
		t.Fatalf("%s: %v %d", s, p, err)
	}
	return e
}

func read(t *testing.T, s string) api.Type {
	t.Helper()
	x, err := ParseType(s)
	if err != api.OK {
		t.Fatalf("%s: %d", s, err)
	}
	return x
}

func val(t *testing.T, s string) api.Value {
	v, _, err := value.ParseValue(s)
	if err != api.OK {
		t.Fatal(s)
	}
	return v
}

func nested(n int) api.Type {
	x := api.Type{Kind: api.TypeInt}
	for range n - 1 {
		x = api.Type{Kind: api.TypeSet, Parts: []api.Type{x}}
	}
	return x
}

func TestCheckType(t *testing.T) {
	self := api.Type{Kind: api.TypeSet, Parts: make([]api.Type, 1)}
	self.Parts[0] = self
	wide := api.Type{Kind: api.TypeTuple, Parts: slices.Repeat([]api.Type{{}}, 60)}
	for i, c := range []struct {
		x   api.Type
		err api.Errno
	}{{api.Type{}, api.OK}, {nested(12), api.OK}, {nested(13), api.ErrLarge}, {self, api.ErrLarge}, {wide, api.OK}, {api.Type{Kind: api.TypeTuple, Parts: slices.Repeat([]api.Type{{}}, 61)}, api.ErrShape}, {api.Type{Kind: api.TypeTuple, Parts: []api.Type{wide, wide, wide, wide}}, api.ErrLarge}, {api.Type{Kind: -1}, api.ErrKind}, {api.Type{Kind: api.TypeKinds}, api.ErrKind}, {api.Type{Kind: api.TypeSet}, api.ErrShape}, {api.Type{Parts: make([]api.Type, 1)}, api.ErrShape}, {api.Type{Names: []string{"a"}}, api.ErrShape}, {api.Type{Kind: api.TypeRecord}, api.ErrShape}, {api.Type{Kind: api.TypeRecord, Names: []string{"1"}, Parts: make([]api.Type, 1)}, api.ErrName}, {api.Type{Kind: api.TypeRecord, Names: []string{"b", "a"}, Parts: make([]api.Type, 2)}, api.ErrOrder}, {api.Type{Kind: api.TypeRecord, Names: []string{"a", "a"}, Parts: make([]api.Type, 2)}, api.ErrOrder},
		{api.Type{N: 1}, api.ErrRange}, {api.Type{Kind: api.TypeVar, N: 200}, api.OK}, {api.Type{Kind: api.TypeVar, N: 201}, api.ErrRange}, {api.Type{Kind: api.TypeVar, N: -1}, api.ErrRange}, {api.Type{Kind: api.TypeTuple, Parts: []api.Type{{N: 1}, {Kind: 99}}}, api.ErrKind}} {
		if err := CheckType(c.x); err != c.err {
			t.Errorf("%d: %d", i, err)
		}
		_, e1 := HasType(api.Value{}, c.x)
		_, _, e2 := Unified(api.Type{}, c.x)
		_, e3 := IsInstance(c.x, api.Type{})
		_, e4 := FormatType(c.x)
		if e1 != c.err || e3 != c.err || e4 != c.err || c.err != api.OK && e2 != c.err {
			t.Errorf("%d: %d %d %d %d", i, e1, e2, e3, e4)
		}
	}
}

func TestTexts(t *testing.T) {
	for _, s := range []string{"bool", "int", "str", "model", "{?0}", "(int -> {str})", "<<>>", "<<int, bool>>", "[f: int, g: <<?12>>]"} {
		x, err := ParseType(s)
		if text, _ := FormatType(x); text != s || err != api.OK {
			t.Errorf("%s: %s %d", s, text, err)
		}
	}
	for s, want := range map[string]api.Errno{"": api.ErrSyntax, "int ": api.ErrSyntax, "?": api.ErrSyntax, "?01": api.ErrSyntax, "?1000": api.ErrSyntax, "?999": api.ErrRange, "{int": api.ErrSyntax, "(int->int)": api.ErrSyntax, "<<int,int>>": api.ErrSyntax, "[]": api.ErrSyntax, "[b: int, a: int]": api.ErrOrder, "[1: int]": api.ErrName, "<<int, >>": api.ErrSyntax, "x": api.ErrSyntax, strings.Repeat("{", 13) + "int" + strings.Repeat("}", 13): api.ErrLarge, strings.Repeat("{", 20000): api.ErrSyntax, strings.Repeat("{", 20001): api.ErrLarge} {
		if _, err := ParseType(s); err != want {
			t.Errorf("%.20q: %d", s, err)
		}
	}
}

// tight writes types without blanks, so that a blank can separate them.
func tight(s string) string {
	return strings.NewReplacer(" -> ", "~", ", ", ",", ": ", ":").Replace(s)
}

func TestHasType(t *testing.T) {
	for s, want := range map[string]string{"TRUE": "bool ?0", "1": "int ?0", `"a"`: "str ?0", "m": "model ?0", "{}": "{int} {bool} {?0} ?0", "{1, 2}": "{int} {?0}", "<<1, TRUE>>": "<<int, bool>> <<?0, ?1>>", "<<1, 2>>": "<<int, int>> (int -> int) (?0 -> ?1) <<?0, ?1>>", "[a |-> 1]": "[a: int] (str -> int)", "<<>>": "<<>> (int -> bool)"} {
		yes := "|" + tight(want) + "|"
		for _, x := range []string{"bool", "int", "str", "model", "{int}", "{bool}", "<<int, bool>>", "<<int, int>>", "[a: int]", "<<>>", "[a: int, b: int]", "[b: int]"} {
			key := tight(x)
			wanted := slices.Contains(strings.FieldsFunc(yes, func(r rune) bool { return r == ' ' || r == '|' }), key)
			if is, err := HasType(val(t, s), read(t, x)); is != wanted || err != api.OK {
				t.Errorf("%s %s: %v %d", s, x, is, err)
			}
		}
		if is, _ := HasType(val(t, s), read(t, "?0")); !is {
			t.Error(s)
		}
	}
	for _, c := range [][2]string{{"<<1, 2>>", "(int -> int)"}, {"[a |-> 1]", "(str -> int)"}, {"(1 :> 2 @@ 5 :> 3)", "(int -> ?0)"}} {
		if is, _ := HasType(val(t, c[0]), read(t, c[1])); !is {
			t.Error(c)
		}
	}
	if is, _ := HasType(val(t, "<<1, TRUE>>"), read(t, "(int -> int)")); is {
		t.Error("unlike values")
	}
	if _, err := HasType(api.Value{Kind: 9}, api.Type{Kind: 99}); err != api.ErrForm {
		t.Error(err)
	}
}

func TestUnified(t *testing.T) {
	for _, c := range [][4]string{{"(?0 -> int)", "({?1} -> ?1)", "({int} -> int)", "?0={int} ?1=int"}, {"?5", "?7", "?0", "?5=?0 ?7=?0"}, {"<<?3, ?4>>", "<<?4, int>>", "<<int, int>>", "?3=int ?4=int"}, {"{?0}", "{?0}", "{?0}", "?0=?0"}, {"?0", "{?0}", "", ""}, {"int", "bool", "", ""}, {"<<int>>", "<<int, int>>", "", ""}, {"[a: ?0]", "[b: ?0]", "", ""}, {"<<?0, ?1>>", "<<{?1}, ?2>>", "<<{?0}, ?0>>", "?0={?0} ?1=?0 ?2=?0"}} {
		x, l, err := Unified(read(t, c[0]), read(t, c[1]))
		if c[2] == "" {
			if err != api.ErrType {
				t.Errorf("%v: %d", c, err)
			}
			continue
		}
		s, _ := FormatType(x)
		var becomes []string
		for _, b := range l {
			y, _ := FormatType(b.Type)
			becomes = append(becomes, b.Name+"="+y)
		}
		if s != c[2] || strings.Join(becomes, " ") != c[3] || err != api.OK {
			t.Errorf("%v: %s %v %d", c, s, becomes, err)
		}
		for _, general := range c[:2] {
			if is, err := IsInstance(x, read(t, general)); !is || err != api.OK {
				t.Errorf("%v: no instance of %s", c, general)
			}
		}
	}
	if is, _ := IsInstance(read(t, "?0"), read(t, "int")); is {
		t.Error("?0")
	}
	if is, _ := IsInstance(read(t, "<<int, bool>>"), read(t, "<<?0, ?0>>")); is {
		t.Error("<<?0, ?0>>")
	}
	double := "<<?0, ?1, ?2, ?3, ?4, ?5, ?6>>"
	grow := "<<<<?1, ?1>>, <<?2, ?2>>, <<?3, ?3>>, <<?4, ?4>>, <<?5, ?5>>, <<?6, ?6>>, ?7>>"
	if _, _, err := Unified(read(t, double), read(t, grow)); err != api.ErrLarge {
		t.Error(err)
	}
}

func names(t *testing.T) []api.Typing {
	return []api.Typing{{Name: "c", Type: read(t, "bool")}, {Name: "f", Type: read(t, "(int -> bool)")}, {Name: "r", Type: read(t, "[a: int, b: <<int, str>>]")}, {Name: "q", Type: read(t, "<<int, bool>>")}, {Name: "m", Type: read(t, "model")}}
}

func defs(t *testing.T) []api.Def {
	d := func(name, params, body string) api.Def {
		p := strings.Fields(params)
		return api.Def{Name: name, Params: p, Arities: make([]int, len(p)), Body: expr(t, body)}
	}
	l := []api.Def{d("P", "a b", "<<a, b>>"), d("K", "", "{1}"), d("Bad", "a", "a + TRUE"), d("R", "n", "R(n)"), d("H", "g", "g(1)"), d("Loop", "n", "Loop(n)")}
	l[3].Recursive, l[4].Arities[0] = true, 1
	return l
}

func TestTypeOf(t *testing.T) {
	for s, want := range map[string]string{
		"{x \\in 1 .. 3 : x > 1}": "{int}", "[x \\in 1 .. 3 |-> {x}]": "(int -> {int})", "\\A z \\in [a: {1}, b: BOOLEAN] : z.b": "bool", "P(1, TRUE) = P(2, FALSE)": "bool", "{}": "{?0}", "<<1, TRUE>>": "<<int, bool>>", "<<{}, {}>>": "<<{?0}, {?1}>>", "(<<1, TRUE>>)[2]": "bool", "q[1] + 1": "int", "f[1]": "bool", "r.a": "int", "r.b[2]": "str", "[r EXCEPT !.a = @ + 1]": "[a: int, b: <<int, str>>]", "[q EXCEPT ![2] = ~@]": "<<int, bool>>", "[f EXCEPT ![1] = @ /\\ c]": "(int -> bool)", "{x + 1 : x \\in {1}}": "{int}", "CHOOSE x \\in BOOLEAN : x": "bool", "[x \\in {1}, y \\in STRING |-> y]": "(<<int, str>> -> str)", "[1 .. 2 -> BOOLEAN]": "{(int -> bool)}", "[b |-> 1, a |-> m]": "[a: model, b: int]",
		"IF c THEN {} ELSE {1}": "{int}", "CASE c -> 1 [] OTHER -> 2": "int", "LET a == 1 IN a + a": "int", "LET g(x) == {x} IN <<g(1), g(TRUE)>>": "<<{int}, {bool}>>", "K": "{int}", "\\A x : x = 1": "bool", "[c]_q": "bool", "WF_q(c)": "bool", "c /\\ ENABLED c": "bool", "UNCHANGED q": "bool", "1 \\in Nat": "bool", "{1} \\subseteq K": "bool", "{1} \\cup {}": "{int}", "SUBSET K": "{{int}}", "UNION {K}": "{int}", "DOMAIN f": "{int}", "DOMAIN q": "{int}", "DOMAIN r": "{str}", "-1 ^ 2": "int", "1 .. 2": "{int}", "f \\o f": "(int -> bool)", "K \\X BOOLEAN": "{<<int, bool>>}", "Seq(K)": "{(int -> int)}", "q'": "<<int, bool>>", "CHOOSE x \\in {} : TRUE": "?0", "Int \\ Nat": "{int}", "STRING": "{str}", "LET c == 1 IN c": "int", "LET Seq(a) == a IN Seq(1)": "int", "\\A P \\in {1} : P = 1": "bool",
		"{1, TRUE}": "!20@2", "x = x": "!10@0", "\\A x : x \\in x": "!20@2", "IF c THEN 1 ELSE \"a\"": "!20@3", "(<<1, TRUE>>)[3]": "!20@4", "f.a": "!29@1", "r.z": "!29@1", "F(1)": "!10@1", "c(1)": "!10@1", "P": "!17@0", "P(1)": "!17@1", "R(1)": "!29@1", "H(1)": "!29@1", "H(LAMBDA u : u)": "!29@1", "1 + Bad(1)": "!20@2", "Loop(1)": "!37@1", "1 :> 2": "!10@2", "\\A P \\in {1} : P(1, 2)": "!10@4", "LET RECURSIVE g g == g IN g": "!29@1", "A!B": "!10@0", "\\A x \\in 1 : TRUE": "!20@2", "LET a == 1 + TRUE IN a": "!20@3", "Seq(K, K)": "!17@2", "1 + c": "!20@2", "LET a == 1 IN {a, c}": "!20@3", "f[1, 2]": "!20@3",
	} {
		x, at, err := TypeOf(expr(t, s), names(t), defs(t))
		if n, is := strings.CutPrefix(want, "!"); is {
			if strconv.Itoa(int(err))+"@"+strconv.Itoa(at) != n {
				t.Errorf("%s: %d@%d, want %s", s, err, at, n)
			}
			continue
		}
		if text, _ := FormatType(x); text != want || at != 0 || err != api.OK {
			t.Errorf("%s: %s %d@%d, want %s", s, text, err, at, want)
		}
	}
	deep := "{" + strings.Repeat("{", 11) + "1" + strings.Repeat("}", 12)
	if _, at, err := TypeOf(expr(t, deep), nil, nil); at != 12 || err != api.ErrLarge {
		t.Error(at, err)
	}
}

func TestErrors(t *testing.T) {
	one := api.Expr{{Kind: api.ExprNumber}}
	open := []api.Typing{{Name: "a", Type: api.Type{Kind: api.TypeVar}}}
	for i, c := range []struct {
		e     api.Expr
		names []api.Typing
		defs  []api.Def
		err   api.Errno
	}{{nil, make([]api.Typing, 61), nil, api.ErrEmpty}, {one, make([]api.Typing, 61), nil, api.ErrLarge}, {one, []api.Typing{{Name: "BOOLEAN"}}, nil, api.ErrName}, {one, []api.Typing{{Name: "a"}, {Name: "a"}}, nil, api.ErrExists}, {one, []api.Typing{{Name: "a", Type: api.Type{Kind: -1}}}, nil, api.ErrKind}, {one, open, nil, api.ErrOpen}, {one, nil, make([]api.Def, 41), api.ErrLarge}, {one, nil, []api.Def{{Name: "1"}}, api.ErrName}} {
		_, _, e1 := TypeOf(c.e, c.names, c.defs)
		_, _, e2 := NodeTypes(c.e, c.names, c.defs)
		if e1 != c.err || e2 != c.err {
			t.Errorf("%d: %d %d", i, e1, e2)
		}
		if c.defs == nil {
			if _, err := CheckTyping(c.e, c.names, nil); err != c.err {
				t.Errorf("%d: %d", i, err)
			}
		}
	}
	d := defs(t)
	if x, _, err := TypeOfDef(d[0], names(t), d); err != api.OK || format(x) != "(<<?0, ?1>> -> <<?0, ?1>>)" {
		t.Error(x, err)
	}
	_, at, e1 := TypeOfDef(d[2], nil, nil)
	_, _, e2 := TypeOfDef(d[3], nil, nil)
	_, _, e3 := TypeOfDef(d[4], nil, nil)
	_, _, e4 := TypeOfDef(api.Def{Name: "1"}, nil, nil)
	_, _, e5 := TypeOfDef(d[0], open, nil)
	if at != 2 || e1 != api.ErrType || e2 != api.ErrArity || e3 != api.ErrArity || e4 != api.ErrName || e5 != api.ErrOpen {
		t.Error(at, e1, e2, e3, e4, e5)
	}
	for _, s := range []string{"LET a == 1 IN a", "P(1, 2)", "K", "H(LAMBDA u : u)"} {
		if _, _, err := NodeTypes(expr(t, s), nil, defs(t)); err != api.ErrRefused {
			t.Errorf("%s: %d", s, err)
		}
	}
}

func TestTypings(t *testing.T) {
	for _, s := range []string{"{x \\in 1 .. 3 : x > 1}", "[x \\in 1 .. 3 |-> {x}]", "<<{}, {}>>", "[r EXCEPT !.a = @ + 1]", "[f EXCEPT ![1] = ~@]", "q[2] /\\ f[q[1]]", "\\A x \\in {}, y \\in Seq({1}) : c", "CHOOSE x \\in SUBSET {1} : x = {}", "IF c THEN {} ELSE {1}", "(UNION {{1}}) \\X BOOLEAN", "DOMAIN r \\cup STRING", "CASE c -> 1 [] OTHER -> r.a", "[{1} -> {2}] = {}", "[a : {1}].b"} {
		e, _, err := parse.ParseExpr([]string{s})
		if err != api.OK {
			t.Fatal(s)
		}
		l, at, err := NodeTypes(e, names(t), nil)
		if s == "[a : {1}].b" {
			if err != api.ErrRefused {
				t.Error(at, err)
			}
			continue
		}
		if err != api.OK {
			t.Errorf("%s: %d %d", s, at, err)
			continue
		}
		if n, err := CheckTyping(e, names(t), l); n != len(e) || err != api.OK {
			t.Errorf("%s: %d %d %v", s, n, err, l)
		}
		for i := range l {
			bad := slices.Clone(l)
			bad[i] = read(t, "<<model, model>>")
			if _, err := CheckTyping(e, names(t), bad); err != api.ErrProof {
				t.Errorf("%s: %d %d", s, i, err)
			}
		}
	}
	x := read(t, "int")
	for s, want := range map[string]int{"LET a == 1 IN a": 2, "1 :> 2": 2, "\\A x : x": 0, "zz": 0, "F(1)": 1, "H(LAMBDA u : c)": 1} {
		e := expr(t, s)
		if at, err := CheckTyping(e, names(t), slices.Repeat([]api.Type{x}, len(e))); at != want || err != api.ErrRefused {
			t.Errorf("%s: %d %d", s, at, err)
		}
	}
	e := expr(t, "1 + 2")
	if _, err := CheckTyping(e, nil, []api.Type{x}); err != api.ErrShape {
		t.Error(err)
	}
	if at, err := CheckTyping(e, nil, []api.Type{x, {Kind: -1}, x}); at != 1 || err != api.ErrKind {
		t.Error(at, err)
	}
	if at, err := CheckTyping(e, nil, []api.Type{x, read(t, "bool"), x}); at != 1 || err != api.ErrProof {
		t.Error(at, err)
	}
}

func TestSound(t *testing.T) {
	c := api.Context{Values: []api.Binding{{Name: "c", Value: val(t, "TRUE")}, {Name: "f", Value: val(t, "(1 :> TRUE @@ 5 :> FALSE)")}, {Name: "r", Value: val(t, `[a |-> 1, b |-> <<1, "s">>]`)}, {Name: "q", Value: val(t, "<<1, TRUE>>")}, {Name: "m", Value: val(t, "m")}}, Defs: defs(t)}
	for _, s := range []string{"{x \\in 1 .. 3 : x > 1}", "[x \\in 1 .. 3 |-> {x}]", "[r EXCEPT !.a = @ + 1]", "P(r.b, q[2])", "LET g(x) == {x} IN <<g(1), g(TRUE)>>", "[b |-> 1, a |-> m]", "K \\X BOOLEAN", "SUBSET K", "[K -> BOOLEAN]", "DOMAIN r", "CHOOSE x \\in DOMAIN f : ~f[x]", "<<1>> \\o <<2>>"} {
		if s == "<<1>> \\o <<2>>" { // tuples have no type of functions
			if _, _, err := TypeOf(expr(t, s), nil, nil); err != api.ErrType {
				t.Error(err)
			}
			continue
		}
		x, _, err := TypeOf(expr(t, s), names(t), defs(t))
		r, err2 := eval.ValueOf(c, expr(t, s))
		if is, _ := HasType(r.Value, x); !is || err != api.OK || err2 != api.OK {
			t.Errorf("%s: %v %v %d %d", s, format(x), r.Value, err, err2)
		}
	}
	_ = exprs.Name
}
