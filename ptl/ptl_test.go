package ptl

import (
	"math/rand"
	"reflect"
	"slices"
	"strings"
	"testing"

	"stutter/api"
	"stutter/lasso"
)

func formula(t testing.TB, s string) api.Formula {
	t.Helper()
	f, at, err := lasso.ParseFormula(s)
	if err != api.OK {
		t.Fatalf("%q: %d at %d", s, err, at)
	}
	return f
}

func text(f api.Formula) string {
	s, _ := lasso.FormatFormula(f)
	return s
}

// joinedBy joins parts by a connective to the right.
func joinedBy(connective string, l ...string) string {
	out := l[len(l)-1]
	for i := len(l) - 2; i >= 0; i-- {
		out = "(" + l[i] + " " + connective + " " + out + ")"
	}
	return out
}

func TestTypes(t *testing.T) {
	for s, want := range map[string][]api.PtlType{
		"<>p0": {{0, 0}, {0, 1}, {1, 1}}, "(p0 | !p0)": {{0, 0, 1, 1}, {1, 1, 0, 1}}, "true": {{1}}, "!true": {{1, 0}}, "[]p0": {{0, 0}, {1, 0}, {1, 1}},
		"(p0 U p1)": {{0, 0, 0}, {0, 1, 1}, {1, 0, 0}, {1, 0, 1}, {1, 1, 1}}, "(true ~> p1)": {{1, 0, 0, 0, 0}, {1, 0, 1, 1, 0}, {1, 0, 1, 1, 1}, {1, 1, 1, 1, 0}, {1, 1, 1, 1, 1}}, "(p0 -> p0)": {{0, 0, 1}, {1, 1, 1}}, "(p0 & p1)": {{0, 0, 0}, {0, 1, 0}, {1, 0, 0}, {1, 1, 1}},
	} {
		if l, err := TypesOf(formula(t, s)); !reflect.DeepEqual(l, want) || err != api.OK {
			t.Error(s, l, err)
		}
	}
	nine := []string{"p0", "p1", "p2", "p3", "p4", "p5", "p6", "p7", "p8"}
	if l, err := TypesOf(formula(t, joinedBy("&", nine...))); len(l) != 512 || err != api.OK {
		t.Error(len(l), err)
	}
	for i, c := range []struct {
		f   api.Formula
		err api.Errno
	}{
		{nil, api.ErrEmpty}, {formula(t, joinedBy("&", append(nine, "p9")...)), api.ErrLarge}, {formula(t, "(("+joinedBy("|", nine[:5]...)+" ~> "+joinedBy("&", nine[:5]...)+") & <>[]p0)"), api.OK},
		{formula(t, joinedBy("&", slices.Repeat([]string{"(p0 ~> p1)"}, 10)...)), api.ErrLarge}, {formula(t, joinedBy("&", slices.Repeat([]string{"(p0 ~> p1)"}, 6)...)), api.OK}, {api.Formula{{Kind: 99}}, api.ErrKind},
	} {
		_, e1 := TypesOf(c.f)
		_, e2 := FollowsOf(c.f, 0)
		_, e3 := Decide(c.f)
		_, e4 := CheckRefutation(c.f, nil)
		if e1 != c.err || e2 != c.err || e3 != c.err || c.err != api.OK && e4 != c.err {
			t.Error(i, e1, e2, e3, e4)
		}
	}
}

func TestFollows(t *testing.T) {
	for s, want := range map[string][][]int{"<>p0": {{0}, {1, 2}, {0, 1, 2}}, "[]p0": {{0, 1, 2}, {0, 1}, {2}}, "(p0 U p1)": {{0, 1, 2, 3, 4}, {0, 1, 2, 3, 4}, {0, 2}, {1, 3, 4}, {0, 1, 2, 3, 4}}} {
		for i, w := range want {
			if l, err := FollowsOf(formula(t, s), i); !slices.Equal(l, w) || err != api.OK {
				t.Error(s, i, l, err)
			}
		}
		for _, i := range []int{-1, len(want)} {
			if _, err := FollowsOf(formula(t, s), i); err != api.ErrMissing {
				t.Error(s, i, err)
			}
		}
	}
}

func TestCheckRefutation(t *testing.T) {
	f := formula(t, "(<>p0 & []!p0)")
	l, _ := TypesOf(f)
	at := slices.IndexFunc(l, func(s api.PtlType) bool { return s[5] == 1 })
	late := slices.IndexFunc(l, func(s api.PtlType) bool { return s[1] == 1 && s[4] == 0 })
	for i, c := range []struct {
		traps []api.PtlTrap
		n     int
		err   api.Errno
	}{
		{[]api.PtlTrap{{Node: 1, Types: []int{at}}}, 1, api.OK}, {nil, 0, api.ErrOpen}, {make([]api.PtlTrap, 601), 0, api.ErrLarge}, {[]api.PtlTrap{{Node: 6}}, 0, api.ErrRange}, {[]api.PtlTrap{{Node: -2}}, 0, api.ErrRange}, {[]api.PtlTrap{{Node: 0}}, 0, api.ErrKind}, {[]api.PtlTrap{{Node: 5}}, 0, api.ErrKind},
		{[]api.PtlTrap{{Node: 1}}, 0, api.ErrEmpty}, {[]api.PtlTrap{{Node: 1, Types: []int{at}}, {Node: api.None}}, 1, api.ErrEmpty}, {[]api.PtlTrap{{Node: 1, Types: []int{at}}, {Node: 1, Types: []int{at}}}, 1, api.ErrDouble}, {[]api.PtlTrap{{Node: 1, Types: []int{at, at}}}, 0, api.ErrOrder},
		{[]api.PtlTrap{{Node: 1, Types: []int{99}}}, 0, api.ErrMissing}, {[]api.PtlTrap{{Node: 1, Types: []int{-1}}}, 0, api.ErrMissing}, {[]api.PtlTrap{{Node: api.None, Types: []int{at}}}, 0, api.ErrProof}, {[]api.PtlTrap{{Node: 4, Types: []int{at}}}, 0, api.ErrProof}, {[]api.PtlTrap{{Node: 1, Types: []int{late}}}, 0, api.ErrProof},
	} {
		if n, err := CheckRefutation(f, c.traps); n != c.n || err != c.err {
			t.Error(i, n, err)
		}
	}
	if n, err := CheckRefutation(formula(t, "!true"), nil); n != 0 || err != api.OK {
		t.Error(n, err)
	}
	// The only type that follows the one in which []p0 stays true, p0 being false once, is none.
	g := formula(t, "([]p0 & <>!p0)")
	a, err := Decide(g)
	if a.Possible || err != api.OK {
		t.Error(a, err)
	}
	if n, err := CheckRefutation(g, a.Traps); n == 0 || err != api.OK {
		t.Error(n, err)
	}
}

func TestCheckModel(t *testing.T) {
	f := formula(t, "[]<>p0")
	for i, c := range []struct {
		f   api.Formula
		w   api.Word
		n   int
		err api.Errno
	}{
		{f, api.Word{Loop: []int{1}}, 1, api.OK}, {f, api.Word{Prefix: []int{0, 0}, Loop: []int{1, 0}}, 4, api.OK}, {f, api.Word{Prefix: []int{1}, Loop: []int{0}}, 0, api.ErrProof}, {f, api.Word{}, 0, api.ErrEmpty}, {nil, api.Word{Loop: []int{-1}}, 0, api.ErrEmpty}, {f, api.Word{Loop: []int{-1}}, 0, api.ErrRange},
		{formula(t, joinedBy("&", "p0", "p1", "p2", "p3", "p4", "p5", "p6", "p7", "p8", "p9")), api.Word{Loop: []int{1023}}, 1, api.OK},
	} {
		if n, err := CheckModel(c.f, c.w); n != c.n || err != c.err {
			t.Error(i, n, err)
		}
	}
}

func TestValid(t *testing.T) {
	for s, want := range map[string]bool{
		"true": true, "!true": false, "([]p0 -> <>p0)": true, "([]<>p0 -> <>[]p0)": false, "(<>[]p0 -> []<>p0)": true, "((p0 ~> p1) -> ([]<>p0 -> []<>p1))": true, "((p0 U p1) -> <>p1)": true, "(<>p1 -> (p0 U p1))": false, "([](p0 -> <>p0) & (p1 | !p1))": true,
	} {
		if is, err := IsValid(formula(t, s)); is != want || err != api.OK {
			t.Error(s, is, err)
		}
	}
	for i, c := range []struct {
		f, g api.Formula
		want bool
		err  api.Errno
	}{
		{formula(t, "(p0 ~> p1)"), formula(t, "[](p0 -> <>p1)"), true, api.OK}, {formula(t, "<>p0"), formula(t, "(true U p0)"), true, api.OK}, {formula(t, "[]<>p0"), formula(t, "<>[]p0"), false, api.OK}, {nil, api.Formula{{Kind: 99}}, false, api.ErrEmpty}, {formula(t, "p0"), api.Formula{{Kind: 99}}, false, api.ErrKind},
		{formula(t, "p0"), formula(t, strings.Repeat("!", 18)+"p0"), false, api.ErrLarge}, {formula(t, "p0"), formula(t, strings.Repeat("!", 16)+"p0"), true, api.OK}, {formula(t, joinedBy("&", "p0", "p1", "p2", "p3", "p4")), formula(t, joinedBy("&", "p5", "p6", "p7", "p8")), false, api.OK},
		{formula(t, joinedBy("&", "p0", "p1", "p2", "p3", "p4")), formula(t, joinedBy("&", "p5", "p6", "p7", "p8", "p9")), false, api.ErrLarge},
	} {
		if is, err := AreEquivalent(c.f, c.g); is != c.want || err != c.err {
			t.Error(i, is, err)
		}
	}
	_, e1 := IsValid(nil)
	_, e2 := IsValid(formula(t, strings.Repeat("!", 39)+"p0"))
	_, e3 := IsValid(formula(t, strings.Repeat("!", 38)+"p0"))
	if e1 != api.ErrEmpty || e2 != api.ErrLarge || e3 != api.OK {
		t.Error(e1, e2, e3)
	}
}

// random returns a formula of at most so many nodes over two atoms.
func random(r *rand.Rand, nodes int) string {
	switch {
	case nodes > 2 && r.Intn(2) == 0:
		left := 1 + r.Intn(nodes-2)
		return "(" + random(r, left) + " " + []string{"&", "|", "->", "~>", "U"}[r.Intn(5)] + " " + random(r, nodes-1-left) + ")"
	case nodes > 1:
		return []string{"!", "[]", "<>"}[r.Intn(3)] + random(r, nodes-1)
	}
	return []string{"p0", "p1", "p0", "p1", "true"}[r.Intn(5)]
}

// words returns all words of a few letters over two atoms.
func words() []api.Word {
	var out []api.Word
	for _, shape := range [][2]int{{0, 1}, {0, 2}, {1, 1}, {0, 3}, {1, 2}, {2, 1}, {2, 2}} {
		n := shape[0] + shape[1]
		for row := range 1 << (2 * n) {
			var l []int
			for i := range n {
				l = append(l, row>>(2*i)&3)
			}
			out = append(out, api.Word{Prefix: l[:shape[0]], Loop: l[shape[0]:]})
		}
	}
	return out
}

func TestDecideRandom(t *testing.T) {
	r := rand.New(rand.NewSource(33))
	all := words()
	refuted, longest := 0, 0
	for round := range 3000 {
		s := random(r, 1+r.Intn(9))
		if round%3 == 0 {
			s = "(" + random(r, 1+r.Intn(6)) + " & !" + random(r, 1+r.Intn(6)) + ")"
		}
		f := formula(t, s)
		a, err := Decide(f)
		if err != api.OK {
			if _, e := TypesOf(f); e != err {
				t.Fatal(s, err)
			}
			continue
		}
		if a.Possible {
			n, err := CheckModel(f, a.Word)
			if err != api.OK || len(a.Traps) > 0 {
				t.Fatal(s, a, err)
			}
			longest = max(longest, n)
			continue
		}
		refuted++
		if _, err := CheckRefutation(f, a.Traps); err != api.OK || len(a.Word.Loop) > 0 {
			t.Fatal(s, a, err)
		}
		for _, w := range all {
			if is, _ := lasso.HoldsOn(f, w); is {
				t.Fatal(s, w)
			}
		}
		if is, err := IsValid(joined(api.FormulaNot, joined(api.FormulaNot, joined(api.FormulaNot, f)))); !is || err != api.OK {
			t.Fatal(s, err)
		}
	}
	t.Log(refuted, "refuted, the longest word", longest)
}

func TestDecideMany(t *testing.T) {
	for _, s := range []string{joinedBy("&", "[]<>p0", "[]<>p1", "[]<>!p0"), "(" + joinedBy("&", "<>p0", "<>p1", "<>p2", "<>p3") + " & " + "[]!(p0 & p1))", joinedBy("&", "[]<>(p0 & !p1)", "[]<>(p1 & !p0)", "[](p2 -> <>p0)")} {
		f := formula(t, s)
		a, err := Decide(f)
		if !a.Possible || err != api.OK {
			t.Fatal(s, err)
		}
		if n, err := CheckModel(f, a.Word); n == 0 || err != api.OK {
			t.Error(s, n, err)
		}
	}
}

func TestRewritten(t *testing.T) {
	for _, c := range []struct {
		f    string
		rule api.PtlRewrite
		want string
	}{
		{"!!p0", api.PtlRewrite{Rule: api.PtlDoubleNot, Node: 2}, "p0"}, {"[][]p0", api.PtlRewrite{Rule: api.PtlTwiceAlways, Node: 2}, "[]p0"}, {"<><>p0", api.PtlRewrite{Rule: api.PtlTwiceSome, Node: 2}, "<>p0"}, {"![]p0", api.PtlRewrite{Rule: api.PtlNotAlways, Node: 2}, "<>!p0"}, {"!<>p0", api.PtlRewrite{Rule: api.PtlNotSome, Node: 2}, "[]!p0"},
		{"<>[]<>p0", api.PtlRewrite{Rule: api.PtlAlwaysSome, Node: 3}, "[]<>p0"}, {"[]<>[]p0", api.PtlRewrite{Rule: api.PtlSomeAlways, Node: 3}, "<>[]p0"}, {"(p0 ~> !p1)", api.PtlRewrite{Rule: api.PtlLeads, Node: 3}, "[](p0 -> <>!p1)"}, {"([]p0 & []!p1)", api.PtlRewrite{Rule: api.PtlAlwaysAnd, Node: 5}, "[](p0 & !p1)"},
		{"(<>p0 | <>p1)", api.PtlRewrite{Rule: api.PtlSomeOr, Node: 4}, "<>(p0 | p1)"}, {"(true U p0)", api.PtlRewrite{Rule: api.PtlTrueUntil, Node: 2}, "<>p0"}, {"(p1 & !!p0)", api.PtlRewrite{Rule: api.PtlDoubleNot, Node: 3}, "(p1 & p0)"},
	} {
		f := formula(t, c.f)
		g, n, err := Rewritten(f, []api.PtlRewrite{c.rule})
		if text(g) != c.want || n != 1 || err != api.OK || text(f) != c.f {
			t.Error(c, text(g), n, err)
		}
		for rule := range api.PtlRewrites {
			if _, n, err := Rewritten(f, []api.PtlRewrite{{Rule: rule, Node: c.rule.Node}}); rule != c.rule.Rule && (n != 0 || err != api.ErrRefused) {
				t.Error(c, rule, n, err)
			}
		}
	}
	f := formula(t, "!!p0")
	long := formula(t, strings.Repeat("!", 35)+"(p0 ~> p1)")
	for i, c := range []struct {
		f     api.Formula
		rules []api.PtlRewrite
		n     int
		err   api.Errno
	}{
		{nil, nil, 0, api.ErrEmpty}, {f, nil, 0, api.OK}, {f, make([]api.PtlRewrite, 61), 0, api.ErrLarge}, {f, []api.PtlRewrite{{Rule: -1, Node: 9}}, 0, api.ErrKind}, {f, []api.PtlRewrite{{Rule: api.PtlRewrites}}, 0, api.ErrKind}, {f, []api.PtlRewrite{{Node: 2}, {Node: 1}}, 1, api.ErrMissing},
		{f, []api.PtlRewrite{{Node: 2}, {Node: 0}}, 1, api.ErrRefused}, {f, []api.PtlRewrite{{Node: -1}}, 0, api.ErrMissing}, {long, []api.PtlRewrite{{Rule: api.PtlLeads, Node: 2}}, 1, api.OK},
	} {
		if _, n, err := Rewritten(c.f, c.rules); n != c.n || err != c.err {
			t.Error(i, n, err)
		}
	}
	full := formula(t, strings.Repeat("!", 34)+"(p0 ~> (p0 ~> p1))")
	if len(full) != 39 {
		t.Fatal(len(full))
	}
	if _, n, err := Rewritten(full, []api.PtlRewrite{{Rule: api.PtlLeads, Node: 4}}); n != 0 || err != api.ErrLarge {
		t.Error(n, err)
	}
	if _, n, err := Rewritten(full, []api.PtlRewrite{{Rule: api.PtlDoubleNot, Node: 38}, {Rule: api.PtlLeads, Node: 4}, {Rule: api.PtlLeads, Node: 3}}); n != 2 || err != api.ErrLarge {
		t.Error(n, err)
	}
}

func TestRewriteRandom(t *testing.T) {
	r := rand.New(rand.NewSource(5))
	all := words()
	for range 1500 {
		s := random(r, 2+r.Intn(12))
		f := formula(t, s)
		g, rules, err := Simplified(f)
		if err != api.OK || len(g) > len(f) {
			t.Fatal(s, err)
		}
		again, n, err := Rewritten(f, rules)
		if text(again) != text(g) || n != len(rules) || err != api.OK {
			t.Fatal(s, text(g), text(again), err)
		}
		for i := range g {
			for _, rule := range []int{api.PtlDoubleNot, api.PtlTwiceAlways, api.PtlTwiceSome} {
				if _, _, err := Rewritten(g, []api.PtlRewrite{{Rule: rule, Node: i}}); err != api.ErrRefused {
					t.Fatal(s, text(g), rule, i)
				}
			}
		}
		h, _, err := Rewritten(f, []api.PtlRewrite{{Rule: r.Intn(api.PtlRewrites), Node: r.Intn(len(f))}})
		w := all[r.Intn(len(all))]
		want, _ := lasso.HoldsOn(f, w)
		if is, _ := lasso.HoldsOn(g, w); is != want {
			t.Fatal(s, text(g), w)
		}
		if is, _ := lasso.HoldsOn(h, w); err == api.OK && is != want {
			t.Fatal(s, text(h), w)
		}
		if is, err := AreEquivalent(f, g); !is && err == api.OK {
			t.Fatal(s, text(g))
		}
	}
	if _, _, err := Simplified(nil); err != api.ErrEmpty {
		t.Error(err)
	}
}
