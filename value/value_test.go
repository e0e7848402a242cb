package value

import (
	"math/rand"
	"strings"
	"testing"

	"stutter/api"
	"stutter/values"
)

func read(t *testing.T, s string) api.Value {
	t.Helper()
	v, at, err := ParseValue(s)
	if err != api.OK || at != len(s) {
		t.Fatalf("%s: %d %d", s, at, err)
	}
	return v
}

func nested(n int) api.Value {
	v := values.Int(1)
	for range n - 1 {
		v = values.Set(v)
	}
	return v
}

func wide(n int) api.Value {
	v := api.Value{Kind: api.ValueSet}
	for i := range n - 1 {
		v.Items = append(v.Items, values.Int(i))
	}
	return v
}

func TestCheckValue(t *testing.T) {
	one, two := values.Int(1), values.Int(2)
	self := api.Value{Kind: api.ValueSet, Items: make([]api.Value, 1)}
	self.Items[0] = self
	for i, c := range []struct {
		v   api.Value
		err api.Errno
	}{
		{api.Value{}, api.OK}, {api.Value{Kind: -1}, api.ErrKind}, {api.Value{Kind: api.ValueKinds}, api.ErrKind}, {api.Value{N: 2}, api.ErrForm}, {api.Value{S: "a"}, api.ErrForm}, {api.Value{Kind: api.ValueSet, N: 1}, api.ErrForm}, {api.Value{Kind: api.ValueSet, Keys: []api.Value{one}}, api.ErrForm}, {api.Value{Kind: api.ValueInt, Items: []api.Value{one}}, api.ErrForm},
		{api.Value{Kind: api.ValueString, N: 1}, api.ErrForm}, {api.Value{Kind: api.ValueModel, S: "a", N: 1}, api.ErrForm}, {values.Int(10000), api.OK}, {values.Int(-10000), api.OK}, {values.Int(10001), api.ErrRange}, {values.Int(-10001), api.ErrRange}, {values.String(strings.Repeat("a", 40)), api.OK}, {values.String(strings.Repeat("\x01", 41)), api.ErrRange},
		{values.String("a\"\\~ "), api.OK}, {values.String("\x1f"), api.ErrName}, {values.String("\x7f"), api.ErrName}, {values.Model("a_1"), api.OK}, {values.Model("1"), api.ErrName}, {values.Model("TRUE"), api.ErrName}, {values.Model(""), api.ErrName}, {api.Value{Kind: api.ValueFunc, Keys: []api.Value{one}}, api.ErrShape}, {values.Tuple(two, one), api.OK},
		{api.Value{Kind: api.ValueSet, Items: []api.Value{two, one}}, api.ErrOrder}, {api.Value{Kind: api.ValueSet, Items: []api.Value{one, one}}, api.ErrOrder}, {api.Value{Kind: api.ValueFunc, Keys: []api.Value{two, one}, Items: []api.Value{one, one}}, api.ErrOrder}, {nested(8), api.OK}, {nested(9), api.ErrLarge}, {wide(300), api.OK}, {wide(301), api.ErrLarge}, {self, api.ErrLarge},
		{values.Tuple(values.Model("IF"), values.Int(20000)), api.ErrName}, {api.Value{Kind: api.ValueFunc, Keys: []api.Value{values.Int(20000)}, Items: []api.Value{values.Model("IF")}}, api.ErrRange},
	} {
		if err := CheckValue(c.v); err != c.err {
			t.Errorf("%d: %d", i, err)
		}
		if _, err := Compare(c.v, one); err != c.err {
			t.Errorf("%d: compare %d", i, err)
		}
		if _, err := Compare(one, c.v); err != c.err {
			t.Errorf("%d: compare %d", i, err)
		}
		if _, err := ShapeOf(c.v); err != c.err {
			t.Errorf("%d: shape %d", i, err)
		}
		if _, err := FormatValue(c.v); err != c.err {
			t.Errorf("%d: format %d", i, err)
		}
		if _, err := Normal(c.v); err != c.err && c.err != api.ErrOrder {
			t.Errorf("%d: normal %d", i, err)
		}
		if _, err := SetOf([]api.Value{c.v}); err != c.err && c.v.Items == nil {
			t.Errorf("%d: set %d", i, err)
		}
	}
}

var ordered = []string{"FALSE", "TRUE", "-3", "0", "5", `""`, `"a"`, `"ab"`, "m", "{}", "{1}", "{1, 2}", "{2}", "<<>>", "<<1>>", "<<2>>", "<<1, 1>>", "(2 :> 0)", "[a |-> 1]"}

func TestCompare(t *testing.T) {
	for i, a := range ordered {
		for j, b := range ordered {
			want := 0
			if i < j {
				want = -1
			} else if i > j {
				want = 1
			}
			if c, err := Compare(read(t, a), read(t, b)); c != want || err != api.OK {
				t.Errorf("%s %s: %d %d", a, b, c, err)
			}
		}
	}
}

func TestShapes(t *testing.T) {
	for s, want := range map[string]int{"1": api.ShapeOther, "{}": api.ShapeOther, "<<>>": api.ShapeTuple, "<<1, 2>>": api.ShapeTuple, "(1 :> 2)": api.ShapeTuple, "(0 :> 2)": api.ShapeMap, "[a |-> 1]": api.ShapeRecord, `("a b" :> 1)`: api.ShapeMap, `("IF" :> 1)`: api.ShapeMap, `("a" :> 1 @@ 1 :> 1)`: api.ShapeMap} {
		if k, err := ShapeOf(read(t, s)); k != want || err != api.OK {
			t.Errorf("%s: %d %d", s, k, err)
		}
	}
}

func TestNormal(t *testing.T) {
	one, two, three := values.Int(1), values.Int(2), values.Int(3)
	set := func(l ...api.Value) api.Value { return api.Value{Kind: api.ValueSet, Items: l} }
	fn := func(k, i []api.Value) api.Value { return api.Value{Kind: api.ValueFunc, Keys: k, Items: i} }
	for i, c := range []struct {
		v    api.Value
		want string
		err  api.Errno
	}{
		{set(three, one, three, set(two, one), set(one, two)), "{1, 3, {1, 2}}", api.OK}, {fn([]api.Value{two, one, two}, []api.Value{one, set(two, one), one}), "<<{1, 2}, 1>>", api.OK}, {fn([]api.Value{one, one}, []api.Value{two, three}), "", api.ErrClash}, {set(one, fn([]api.Value{one, one}, []api.Value{two, three})), "", api.ErrClash},
		{fn([]api.Value{one, one}, []api.Value{two}), "", api.ErrShape}, {set(fn([]api.Value{one, one}, []api.Value{two, three}), values.Int(20000)), "", api.ErrRange},
	} {
		v, err := Normal(c.v)
		s, _ := FormatValue(v)
		if err != c.err || err == api.OK && s != c.want {
			t.Errorf("%d: %s %d", i, s, err)
		}
	}
	if v, err := SetOf([]api.Value{three, one, three}); err != api.OK || !values.Same(v, values.Set(one, three)) {
		t.Error(v, err)
	}
	if _, err := SetOf(make([]api.Value, 301)); err != api.ErrLarge {
		t.Error(err)
	}
	if v, err := SetOf(make([]api.Value, 300)); err != api.OK || len(v.Items) != 1 {
		t.Error(err)
	}
	if _, err := SetOf([]api.Value{nested(8)}); err != api.ErrLarge {
		t.Error(err)
	}
	if _, err := SetOf(wide(301).Items); err != api.ErrLarge {
		t.Error(err)
	}
	for i, c := range []struct {
		k, i []api.Value
		err  api.Errno
	}{{[]api.Value{two, one}, []api.Value{one, two}, api.OK}, {[]api.Value{one}, nil, api.ErrShape}, {make([]api.Value, 301), make([]api.Value, 301), api.ErrLarge}, {[]api.Value{one, {N: 5}}, []api.Value{{Kind: 9}, one}, api.ErrForm}, {[]api.Value{one, one}, []api.Value{one, two}, api.ErrClash}, {[]api.Value{one, one}, []api.Value{one, one}, api.OK}, {[]api.Value{one}, []api.Value{nested(8)}, api.ErrLarge}} {
		if _, err := FunctionOf(c.k, c.i); err != c.err {
			t.Errorf("%d: %d", i, err)
		}
	}
	a := set(two, one)
	v, _ := Normal(a)
	v.Items[0].N = 9
	if a.Items[1].N != 1 || a.Items[0].N != 2 {
		t.Error("an argument is changed")
	}
}

func TestSets(t *testing.T) {
	for _, c := range []struct {
		op         int
		a, b, want string
	}{{api.CombineUnion, "{1, 3}", "{2, 3}", "{1, 2, 3}"}, {api.CombineBoth, "{1, 3}", "{2, 3}", "{3}"}, {api.CombineWithout, "{1, 3}", "{2, 3}", "{1}"}, {api.CombineBoth, "{}", "{2, 3}", "{}"}} {
		v, err := Combined(c.op, read(t, c.a), read(t, c.b))
		if s, _ := FormatValue(v); s != c.want || err != api.OK {
			t.Errorf("%v: %s %d", c, s, err)
		}
	}
	bad, one, empty := values.Int(20000), values.Int(1), values.Set()
	for i, c := range []struct {
		op   int
		a, b api.Value
		err  api.Errno
	}{{-1, bad, bad, api.ErrKind}, {3, bad, bad, api.ErrKind}, {0, one, bad, api.ErrRange}, {0, one, empty, api.ErrType}, {0, empty, one, api.ErrType}, {0, wide(200), values.Set(values.Set(wide(120).Items...)), api.ErrLarge}} {
		if _, err := Combined(c.op, c.a, c.b); err != c.err {
			t.Errorf("%d: %d", i, err)
		}
	}
	if ok, err := IsSubset(read(t, "{1, 2}"), read(t, "{1, 2, 3}")); !ok || err != api.OK {
		t.Error(err)
	}
	if ok, err := IsSubset(read(t, "{1, 4}"), read(t, "{1, 2, 3}")); ok || err != api.OK {
		t.Error(err)
	}
	if _, err := IsSubset(one, bad); err != api.ErrRange {
		t.Error(err)
	}
	if _, err := IsSubset(empty, one); err != api.ErrType {
		t.Error(err)
	}
	if l, err := Members(read(t, "{2, 1}")); len(l) != 2 || l[0].N != 1 || err != api.OK {
		t.Error(l, err)
	}
	if _, err := Members(one); err != api.ErrType {
		t.Error(err)
	}
	if _, err := Members(bad); err != api.ErrRange {
		t.Error(err)
	}
}

func TestFunctions(t *testing.T) {
	f := read(t, "(1 :> 5 @@ 3 :> 6)")
	one, bad := values.Int(1), values.Int(20000)
	if v, err := DomainOf(f); !values.Same(v, read(t, "{1, 3}")) || err != api.OK {
		t.Error(v, err)
	}
	if v, err := Applied(f, values.Int(3)); v.N != 6 || err != api.OK {
		t.Error(v, err)
	}
	if v, err := Except(f, values.Int(3), one); !values.Same(v, read(t, "(1 :> 5 @@ 3 :> 1)")) || err != api.OK {
		t.Error(v, err)
	}
	if v, err := Except(f, values.Int(2), one); !values.Same(v, f) || err != api.OK {
		t.Error(v, err)
	}
	if v, err := Joined(read(t, "<<1>>"), read(t, "<<2, 3>>")); !values.Same(v, read(t, "<<1, 2, 3>>")) || err != api.OK {
		t.Error(v, err)
	}
	_, e1 := DomainOf(one)
	_, e2 := Applied(one, one)
	_, e3 := Except(one, one, one)
	_, e4 := Joined(f, read(t, "<<>>"))
	_, e5 := Joined(read(t, "<<>>"), one)
	if e1 != api.ErrType || e2 != api.ErrType || e3 != api.ErrType || e4 != api.ErrType || e5 != api.ErrType {
		t.Error(e1, e2, e3, e4, e5)
	}
	_, e1 = Applied(f, values.Int(2))
	_, e2 = Applied(one, bad)
	_, e3 = Except(one, one, bad)
	_, e4 = Joined(one, bad)
	_, e5 = Except(f, one, nested(8))
	if e1 != api.ErrSilly || e2 != api.ErrRange || e3 != api.ErrRange || e4 != api.ErrRange || e5 != api.ErrLarge {
		t.Error(e1, e2, e3, e4, e5)
	}
}

func TestRenamed(t *testing.T) {
	r := func(l ...string) (out []api.Renaming) {
		for i := 0; i < len(l); i += 2 {
			out = append(out, api.Renaming{From: l[i], To: l[i+1]})
		}
		return out
	}
	for i, c := range []struct {
		v    string
		n    []api.Renaming
		want string
		err  api.Errno
	}{{"{a, <<b, c>>}", r("a", "b", "b", "a"), "{b, <<a, c>>}", api.OK}, {`{a, b, "a"}`, r("a", "b"), `{"a", b}`, api.OK}, {"(a :> 1 @@ b :> 2)", r("a", "b"), "", api.ErrClash}, {"(a :> 1 @@ b :> 1)", r("a", "b"), "(b :> 1)", api.OK}, {"(a :> 1 @@ b :> 2)", r("b", "A"), "(A :> 2 @@ a :> 1)", api.OK},
		{"a", r("a", "b", "a", "c"), "", api.ErrDouble}, {"a", r("a", "b", "c", "b"), "", api.ErrClash}, {"a", r("1", "b"), "", api.ErrName}, {"a", r("a", "IF"), "", api.ErrName}, {"a", make([]api.Renaming, 61), "", api.ErrLarge}} {
		v, err := Renamed(read(t, c.v), c.n)
		if s, _ := FormatValue(v); err != c.err || err == api.OK && s != c.want {
			t.Errorf("%d: %s %d", i, s, err)
		}
	}
	if _, err := Renamed(values.Int(20000), make([]api.Renaming, 61)); err != api.ErrRange {
		t.Error(err)
	}
}

func TestTexts(t *testing.T) {
	for s, want := range map[string]string{
		"TRUE": "", " 007 ": "7", "-0": "0", "-5": "", `"a\"\\"`: "", "{3,1 , 3}": "{1, 3}", "[b |-> 1,a|->TRUE]": "[a |-> TRUE, b |-> 1]", "<< 5,\n{} >>": "<<5, {}>>", "(2:>{}@@0 :> 5)": "(0 :> 5 @@ 2 :> {})", "<<>>": "", "{}": "", "(1 :> 5)": "<<5>>", "1a": "1a", "{ }": "{}", "999999": "!", "000123": "123", "[BOOLEAN |-> 1]": "", `"` + "a b" + `"`: "",
	} {
		if want == "" {
			want = s
		}
		v, at, err := ParseValue(s)
		if want == "!" {
			if err != api.ErrRange || at != 0 {
				t.Errorf("%q: %d %d", s, at, err)
			}
			continue
		}
		if got, _ := FormatValue(v); got != want || at != len(s) || err != api.OK {
			t.Errorf("%q: %s %d %d", s, got, at, err)
		}
	}
	for s, at := range map[string]int{"": 0, "{1 2}": 3, "<<1, 2>": 7, "{": 1, "{1,": 3, "{1,}": 3, "- 1": 1, "-": 1, "-a": 1, "1234567": 6, "-1234567": 7, "IF": 0, "{IF}": 1, "12_": 0, `"a`: 2, `"a\b"`: 3, `"a\`: 3, "\"\x01\"": 1, "[1 |-> 2]": 1, "[a > 2]": 3, "[a |- 2]": 5, "[TRUE |-> 1]": 1, "(1 : 2)": 4, "(1 :> 2 @ 3)": 9, "()": 1, "1 1": 2, "<1": 1, "\t1": 0, strings.Repeat("{", 21): 20, strings.Repeat("{", 20): 20, "{1}}": 3, "&": 0, "-1a": 2,
		strings.Repeat("a", 25): 0, "[]": 1, "<<1> >": 4} {
		if _, got, err := ParseValue(s); got != at || err != api.ErrSyntax {
			t.Errorf("%q: %d %d", s, got, err)
		}
	}
	for s, want := range map[string]api.Errno{"(1 :> 2 @@ 1 :> 3)": api.ErrClash, strings.Repeat(" ", 20000): api.ErrSyntax, strings.Repeat(" ", 20001): api.ErrLarge, strings.Repeat("{", 9) + strings.Repeat("}", 9): api.ErrLarge, `"` + strings.Repeat("a", 41) + `"`: api.ErrRange, "10001": api.ErrRange} {
		if _, at, err := ParseValue(s); err != want || err != api.ErrSyntax && at != 0 {
			t.Errorf("%.20q: %d %d", s, at, err)
		}
	}
}

func TestDigests(t *testing.T) {
	if d, err := DigestOf(values.Bool(true), 30); d != 374602820 || err != api.OK {
		t.Error(d, err)
	}
	if d, err := DigestOf(values.Bool(true), 3); d != 374602820%8 || err != api.OK {
		t.Error(d, err)
	}
	for _, bits := range []int{0, 31} {
		if _, err := DigestOf(values.Bool(true), bits); err != api.ErrRange {
			t.Error(err)
		}
	}
	if _, err := DigestOf(values.Int(20000), 0); err != api.ErrRange {
		t.Error(err)
	}
	if _, err := DigestOf(values.Model("1"), 0); err != api.ErrName {
		t.Error(err)
	}
}

func some(r *rand.Rand, depth int) api.Value {
	n := r.Intn(4)
	switch k := r.Intn(6); {
	case k < 2 || depth == 0:
		return values.Int(r.Intn(5))
	case k == 2:
		return values.Model(string(rune('a' + n)))
	case k == 3:
		return values.String(string(rune('a'+n)) + `"\ `)
	}
	var l, m []api.Value
	for range n {
		l, m = append(l, some(r, depth-1)), append(m, some(r, depth-1))
	}
	if r.Intn(2) == 0 {
		return values.Set(l...)
	}
	f, ok := values.Func(l, m)
	if !ok {
		return values.Tuple(m...)
	}
	return f
}

func TestByChance(t *testing.T) {
	r := rand.New(rand.NewSource(2))
	for range 2000 {
		v, w := some(r, 3), some(r, 3)
		s, err := FormatValue(v)
		back, _, err2 := ParseValue(s)
		n, err3 := Normal(v)
		if err != api.OK || err2 != api.OK || err3 != api.OK || !values.Same(v, back) || !values.Same(v, n) {
			t.Fatalf("%s %d %d %d", s, err, err2, err3)
		}
		a, _ := Compare(v, w)
		b, _ := Compare(w, v)
		other, _ := FormatValue(w)
		if a != -b || (a == 0) != (s == other) {
			t.Fatalf("%s %s", s, other)
		}
		if v.Kind != api.ValueSet || w.Kind != api.ValueSet {
			continue
		}
		u, _ := Combined(api.CombineUnion, v, w)
		both, _ := Combined(api.CombineBoth, w, v)
		absorbed, _ := Combined(api.CombineBoth, u, v)
		rest, _ := Combined(api.CombineWithout, v, w)
		if !values.Same(absorbed, v) || len(rest.Items)+len(both.Items) != len(v.Items) || len(u.Items) != len(rest.Items)+len(w.Items) {
			t.Fatalf("%s %s", s, other)
		}
	}
}
