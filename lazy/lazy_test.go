package lazy

import (
	"strings"
	"testing"

	"stutter/api"
	"stutter/value"
	"stutter/values"
)

func interval(low, high int) api.Lazy {
	return api.Lazy{{Kind: api.LazyInterval, Low: low, High: high}}
}

func leaf(kind int) api.Lazy { return api.Lazy{{Kind: kind}} }

func listedSet(l ...api.Value) api.Lazy {
	return api.Lazy{{Kind: api.LazyListed, Members: values.Set(l...).Items}}
}

func over(kind int, names string, l ...api.Lazy) api.Lazy {
	var out api.Lazy
	n := api.LazyNode{Kind: kind, Names: strings.Fields(names)}
	for _, o := range l {
		at := len(out)
		for _, x := range o {
			var args []int
			for _, a := range x.Args {
				args = append(args, a+at)
			}
			x.Args = args
			out = append(out, x)
		}
		n.Args = append(n.Args, len(out)-1)
	}
	return append(out, n)
}

func read(t *testing.T, s string) api.Value {
	t.Helper()
	v, at, err := value.ParseValue(s)
	if err != api.OK {
		t.Fatalf("%s: %d %d", s, at, err)
	}
	return v
}

func TestCheckLazy(t *testing.T) {
	one, two := values.Int(1), values.Int(2)
	var many []api.Value
	for i := range 201 {
		many = append(many, values.Int(i))
	}
	nat := api.LazyNode{Kind: api.LazyNaturals}
	chain := leaf(api.LazyNaturals)
	for range 39 {
		chain = over(api.LazySubsets, "", chain)
	}
	for i, c := range []struct {
		l   api.Lazy
		at  int
		err api.Errno
	}{
		{nil, 0, api.ErrEmpty}, {chain, 0, api.OK}, {over(api.LazySubsets, "", chain), 0, api.ErrLarge}, {api.Lazy{nat, {Kind: -1}}, 1, api.ErrKind}, {api.Lazy{{Kind: api.LazyKinds}}, 0, api.ErrKind}, {api.Lazy{nat, {Kind: api.LazyUnion, Args: []int{0}}}, 1, api.ErrShape}, {api.Lazy{nat, {Kind: api.LazyUnion, Args: []int{0, 0}}}, 1, api.ErrShape},
		{api.Lazy{nat, {Kind: api.LazySubsets, Args: []int{1}}}, 1, api.ErrShape}, {api.Lazy{nat, nat, {Kind: api.LazyUnion, Args: []int{1, 0}}}, 2, api.ErrShape}, {api.Lazy{nat, nat, {Kind: api.LazySubsets, Args: []int{0}}}, 2, api.ErrShape}, {api.Lazy{nat, nat}, 1, api.ErrOpen}, {api.Lazy{{Kind: api.LazyListed, Members: many}}, 0, api.ErrLarge}, {api.Lazy{{Kind: api.LazyListed, Members: many[:200]}}, 0, api.OK},
		{api.Lazy{{Kind: api.LazyListed, Members: []api.Value{two, one, values.Int(20000)}}}, 0, api.ErrRange}, {api.Lazy{{Kind: api.LazyListed, Members: []api.Value{two, one}}}, 0, api.ErrOrder}, {api.Lazy{{Kind: api.LazyListed, Members: []api.Value{one, one}}}, 0, api.ErrOrder}, {interval(-10000, 10000), 0, api.OK}, {interval(-10001, 0), 0, api.ErrRange}, {interval(5, 10001), 0, api.ErrRange}, {interval(5, -10001), 0, api.ErrRange},
		{over(api.LazyRecords, "a b", leaf(api.LazyNaturals), leaf(api.LazyNaturals)), 0, api.OK}, {over(api.LazyRecords, "b a", leaf(api.LazyNaturals), leaf(api.LazyNaturals)), 2, api.ErrOrder}, {over(api.LazyRecords, "a a", leaf(api.LazyNaturals), leaf(api.LazyNaturals)), 2, api.ErrOrder}, {over(api.LazyRecords, "1", leaf(api.LazyNaturals)), 1, api.ErrName}, {over(api.LazyRecords, "a b", leaf(api.LazyNaturals)), 1, api.ErrShape}, {api.Lazy{{Kind: api.LazyRecords}}, 0, api.ErrShape},
		{over(api.LazyProduct, "", leaf(api.LazyNaturals)), 1, api.ErrShape}, {over(api.LazyProduct, "", leaf(2), leaf(2), leaf(2), leaf(2)), 0, api.OK}, {over(api.LazyProduct, "", leaf(2), leaf(2), leaf(2), leaf(2), leaf(2)), 5, api.ErrShape}, {api.Lazy{{Kind: api.LazyNaturals, Low: 1}}, 0, api.ErrForm}, {api.Lazy{{Kind: api.LazyNaturals, Names: []string{"a"}}}, 0, api.ErrForm}, {api.Lazy{{Kind: api.LazyInterval, Members: []api.Value{one}}}, 0, api.ErrForm},
		{over(api.LazyUnion, "a", leaf(2), leaf(2)), 2, api.ErrForm}, {api.Lazy{nat, {Kind: api.LazyNaturals, Args: []int{0}}}, 1, api.ErrShape}, {api.Lazy{nat, nat, {Kind: -1}}, 2, api.ErrKind},
	} {
		if at, err := CheckLazy(c.l); at != c.at || err != c.err {
			t.Errorf("%d: %d %d", i, at, err)
		}
		if c.err == api.OK {
			continue
		}
		_, e1 := Contains(c.l, one)
		_, e2 := CountOf(c.l)
		_, e3 := MemberAt(c.l, -1)
		_, e4 := NumberOf(c.l, api.Value{Kind: 9})
		_, e5 := ListedOf(c.l)
		_, e6 := IsWithin(c.l, nil)
		_, e7 := OutsideOf(interval(1, 1), c.l)
		_, e8 := FormatLazy(c.l)
		for _, e := range []api.Errno{e1, e2, e3, e4, e5, e6, e7, e8} {
			if e != c.err {
				t.Errorf("%d: %d", i, e)
			}
		}
	}
}

func sets(t *testing.T) map[string]api.Lazy {
	nat, strs := leaf(api.LazyNaturals), leaf(api.LazyStrings)
	small := interval(1, 3)
	return map[string]api.Lazy{
		"1..3": small, "3..2": interval(3, 2), "Nat": nat, "Int": leaf(api.LazyIntegers), "STRING": strs, "Seq(1..3)": over(api.LazySequences, "", small), "SUBSET (1..3)": over(api.LazySubsets, "", small), "SUBSET (Nat)": over(api.LazySubsets, "", nat), "[({1, 2}) -> (0..1)]": over(api.LazyFunctions, "", listedSet(values.Int(1), values.Int(2)), interval(0, 1)),
		"[(1..10) -> (0..9)]": over(api.LazyFunctions, "", interval(1, 10), interval(0, 9)), "[(3..2) -> (0..1)]": over(api.LazyFunctions, "", interval(3, 2), interval(0, 1)), "[(1..2) -> (3..2)]": over(api.LazyFunctions, "", interval(1, 2), interval(3, 2)), `[a : 0..2, b : {"x", "y"}]`: over(api.LazyRecords, "a b", interval(0, 2), listedSet(values.String("x"), values.String("y"))),
		"(1..3) \\X (0..1)": over(api.LazyProduct, "", small, interval(0, 1)), "(1..5) \\cap (Nat)": over(api.LazyBoth, "", interval(1, 5), nat), "(Nat) \\cap (2..4)": over(api.LazyBoth, "", nat, interval(2, 4)), "(Nat) \\cap (Int)": over(api.LazyBoth, "", nat, leaf(api.LazyIntegers)), "(1..3) \\cup (2..6)": over(api.LazyUnion, "", small, interval(2, 6)), "(1..3) \\ (2..6)": over(api.LazyWithout, "", small, interval(2, 6)),
		"(Nat) \\ (1..3)": over(api.LazyWithout, "", nat, small), "(1..3) \\ (Nat)": over(api.LazyWithout, "", small, nat), "SUBSET (1..40)": over(api.LazySubsets, "", interval(1, 40)), "SUBSET (1..29)": over(api.LazySubsets, "", interval(1, 29)), "SUBSET ((SUBSET (1..2)) \\ ({{}}))": over(api.LazySubsets, "", over(api.LazyWithout, "", over(api.LazySubsets, "", interval(1, 2)), listedSet(values.Set()))), "-3..-1": interval(-3, -1),
		"(1..300) \\cup (1..2)": over(api.LazyUnion, "", interval(1, 300), interval(1, 2)), "[(Nat) -> (1..2)]": over(api.LazyFunctions, "", nat, interval(1, 2)), "[(SUBSET (1..40)) -> (1..2)]": over(api.LazyFunctions, "", over(api.LazySubsets, "", interval(1, 40)), interval(1, 2)), "[(1..1000) -> (1..1)]": over(api.LazyFunctions, "", interval(1, 1000), interval(1, 1)), "(1..10000) \\X (1..10000)": over(api.LazyProduct, "", interval(1, 10000), interval(1, 10000)),
	}
}

func TestCounts(t *testing.T) {
	l := sets(t)
	for s, want := range map[string]int{"1..3": 3, "3..2": 0, "Nat": -1, "Int": -1, "STRING": -1, "Seq(1..3)": -1, "SUBSET (1..3)": 8, "SUBSET (Nat)": -1, "[({1, 2}) -> (0..1)]": 4, "[(1..10) -> (0..9)]": -2, "[(3..2) -> (0..1)]": 1, "[(1..2) -> (3..2)]": 0, `[a : 0..2, b : {"x", "y"}]`: 6, "(1..3) \\X (0..1)": 6, "(1..5) \\cap (Nat)": 5, "(Nat) \\cap (2..4)": 3, "(Nat) \\cap (Int)": -1, "(1..3) \\cup (2..6)": 6,
		"(1..3) \\ (2..6)": 1, "(Nat) \\ (1..3)": -1, "(1..3) \\ (Nat)": 0, "SUBSET (1..40)": -2, "SUBSET (1..29)": 1 << 29, "SUBSET ((SUBSET (1..2)) \\ ({{}}))": 8, "(1..300) \\cup (1..2)": -2, "[(Nat) -> (1..2)]": -1, "[(SUBSET (1..40)) -> (1..2)]": -2, "[(1..1000) -> (1..1)]": 1, "(1..10000) \\X (1..10000)": 100000000, "-3..-1": 3} {
		wanted := api.OK
		if want < 0 {
			wanted = map[int]api.Errno{-1: api.ErrUnbounded, -2: api.ErrLarge}[want]
			want = 0
		}
		if c, err := CountOf(l[s]); c != want || err != wanted {
			t.Errorf("%s: %d %d", s, c, err)
		}
		if text, err := FormatLazy(l[s]); text != s || err != api.OK {
			t.Errorf("%s: %s", s, text)
		}
		if wanted == api.OK && want <= 200 && s != "[(1..1000) -> (1..1)]" {
			checkMembersOf(t, s, l[s], want)
		}
	}
}

// checkMembersOf looks whether members, numbers and the listed set fit together.
func checkMembersOf(t *testing.T, s string, l api.Lazy, count int) {
	t.Helper()
	v, err := ListedOf(l)
	if err != api.OK || len(v.Items) != count || value.CheckValue(v) != api.OK {
		t.Errorf("%s: %v %d", s, v, err)
		return
	}
	for i, x := range v.Items {
		m, e1 := MemberAt(l, i)
		n, e2 := NumberOf(l, x)
		is, e3 := Contains(l, x)
		if !values.Same(m, x) || n != i || !is || e1 != api.OK || e2 != api.OK || e3 != api.OK {
			t.Errorf("%s: %d %v %v %d %d", s, i, x, m, n, e3)
		}
	}
	for _, at := range []int{-1, count} {
		if _, err := MemberAt(l, at); err != api.ErrNone {
			t.Errorf("%s: %d", s, err)
		}
	}
	if _, err := NumberOf(l, values.Model("none")); err != api.ErrMissing {
		t.Errorf("%s: %d", s, err)
	}
}

func TestContains(t *testing.T) {
	l := sets(t)
	for s, v := range map[string]string{"Nat": "5", "Int": "-5", "STRING": `"a"`, "Seq(1..3)": "<<1, 3, 3, 2>>", "SUBSET (Nat)": "{1, 7}", "[(1..10) -> (0..9)]": "<<1, 2, 3, 4, 5, 6, 7, 8, 9, 0>>", "[(3..2) -> (0..1)]": "<<>>", "(Nat) \\ (1..3)": "4", "(Nat) \\cap (Int)": "3", "SUBSET (1..40)": "{1, 40}", "(1..300) \\cup (1..2)": "299"} {
		if is, err := Contains(l[s], read(t, v)); !is || err != api.OK {
			t.Errorf("%s %s: %d", s, v, err)
		}
	}
	for s, v := range map[string]string{"Nat": "-1", "Int": `"a"`, "STRING": "a", "Seq(1..3)": "<<1, 4>>", "SUBSET (Nat)": "{1, -7}", "[(1..10) -> (0..9)]": "<<1>>", "[(3..2) -> (0..1)]": "<<1>>", "(Nat) \\ (1..3)": "3", "SUBSET (1..40)": "{41}", "1..3": "TRUE", "[(Nat) -> (1..2)]": "<<>>", "[(SUBSET (1..40)) -> (1..2)]": "({} :> 1)", `[a : 0..2, b : {"x", "y"}]`: "[a |-> 1]", "(1..3) \\X (0..1)": "<<1, 1, 1>>", "(1..3) \\ (2..6)": "2"} {
		if is, err := Contains(l[s], read(t, v)); is || err != api.OK {
			t.Errorf("%s %s: %d", s, v, err)
		}
	}
	if _, err := Contains(l["Nat"], values.Int(20000)); err != api.ErrRange {
		t.Error(err)
	}
	if _, err := NumberOf(l["Nat"], values.Int(20000)); err != api.ErrUnbounded {
		t.Error(err)
	}
	if _, err := NumberOf(l["1..3"], values.Int(20000)); err != api.ErrRange {
		t.Error(err)
	}
}

func TestMembers(t *testing.T) {
	l := sets(t)
	for s, want := range map[string]string{"SUBSET (1..3)": "{{}, {1}, {1, 2}, {1, 2, 3}, {1, 3}, {2}, {2, 3}, {3}}", "[({1, 2}) -> (0..1)]": "{<<0, 0>>, <<0, 1>>, <<1, 0>>, <<1, 1>>}", "(1..3) \\ (2..6)": "{1}"} {
		v, err := ListedOf(l[s])
		if got, _ := value.FormatValue(v); got != want || err != api.OK {
			t.Errorf("%s: %s %d", s, got, err)
		}
	}
	if v, err := MemberAt(l[`[a : 0..2, b : {"x", "y"}]`], 5); !values.Same(v, read(t, `[a |-> 2, b |-> "y"]`)) || err != api.OK {
		t.Error(v, err)
	}
	if v, err := MemberAt(l["SUBSET (1..29)"], 1<<29-1); !values.Same(v, read(t, "{29}")) || err != api.OK {
		t.Error(v, err)
	}
	if n, err := NumberOf(l["SUBSET (1..29)"], read(t, "{1, 2, 29}")); n != 1+1+(1<<27-1) || err != api.OK {
		t.Error(n, err)
	}
	for s, want := range map[string]api.Errno{"[(1..1000) -> (1..1)]": api.ErrLarge, "(1..10000) \\X (1..10000)": api.ErrLarge, "Nat": api.ErrUnbounded} {
		if _, err := ListedOf(l[s]); err != want {
			t.Errorf("%s: %d", s, err)
		}
		if _, err := IsWithin(l[s], l["Nat"]); err != want {
			t.Errorf("%s: %d", s, err)
		}
	}
	if _, err := ListedOf(over(api.LazySubsets, "", interval(1, 7))); err != api.ErrLarge {
		t.Error(err)
	}
	if _, err := MemberAt(l["[(1..1000) -> (1..1)]"], 0); err != api.ErrLarge {
		t.Error(err)
	}
}

func TestWithin(t *testing.T) {
	l := sets(t)
	for _, c := range []struct {
		a, b, out string
		err       api.Errno
	}{{"1..3", "Nat", "", api.ErrNone}, {"1..3", "(1..3) \\ (2..6)", "2", api.OK}, {"-3..-1", "Nat", "-3", api.OK}, {"SUBSET (1..3)", "SUBSET (Nat)", "", api.ErrNone}, {"Nat", "Nat", "", api.ErrUnbounded}, {"3..2", "3..2", "", api.ErrNone}} {
		v, err := OutsideOf(l[c.a], l[c.b])
		if err != c.err || err == api.OK && !values.Same(v, read(t, c.out)) {
			t.Errorf("%v: %v %d", c, v, err)
		}
		is, err := IsWithin(l[c.a], l[c.b])
		if is != (c.err == api.ErrNone) || err != api.OK && err != c.err {
			t.Errorf("%v: %v %d", c, is, err)
		}
	}
	if x, err := LazyOf(read(t, "{1, 2}")); err != api.OK || len(x) != 1 || len(x[0].Members) != 2 {
		t.Error(x, err)
	}
	if _, err := LazyOf(values.Int(1)); err != api.ErrType {
		t.Error(err)
	}
	if _, err := LazyOf(values.Int(20000)); err != api.ErrRange {
		t.Error(err)
	}
	big := values.Set()
	for i := range 201 {
		big.Items = append(big.Items, values.Int(i))
	}
	if _, err := LazyOf(big); err != api.ErrLarge {
		t.Error(err)
	}
	var long []api.Value
	for i := range 200 {
		long = append(long, values.String(strings.Repeat("a", 36)+string(rune('a'+i/26))+string(rune('a'+i%26))))
	}
	all := listedSet(long...)
	if _, err := FormatLazy(over(api.LazyUnion, "", all, all)); err != api.OK {
		t.Error(err)
	}
	if _, err := FormatLazy(over(api.LazyUnion, "", all, over(api.LazyUnion, "", all, all))); err != api.ErrLarge {
		t.Error(err)
	}
}
