package parse

import (
	"math/rand"
	"slices"
	"strings"
	"testing"

	"stutter/api"
	"stutter/exprs"
	"stutter/tokens"
	"stutter/tree"
)

func place(line, column int) api.TextPlace { return api.TextPlace{Line: line, Column: column} }

func format(t *testing.T, e api.Expr) string {
	t.Helper()
	s, err := tree.FormatExpr(e)
	if err != api.OK {
		t.Fatalf("format: %d", err)
	}
	return s
}

func TestParseExpr(t *testing.T) {
	for s, want := range map[string]string{
		"a + b * c": "", "(a + b) * c": "", "a - b - c": "", "a - (b - c)": "", "~a = b": "", `a \land b`: `a /\ b`, "-a * b": "", "[]<>p => q": "", "-1": "", "f[1]'": "", "-f[1]": "", "x''": "",
		`\A x \in S : p => q`: "", `\A x, y \in S, z \in T : p`: `\A x \in S, y \in S, z \in T : p`, `\E x, y : p`: "", `CHOOSE x \in S : p /\ q`: "", "IF a THEN b ELSE c + d": "", "CASE a -> b [] c -> d [] OTHER -> e": "",
		"CASE p -> CASE q -> a [] OTHER -> b [] r -> c": "CASE p -> (CASE q -> a [] OTHER -> b) [] r -> c", "CASE p -> a [] q -> b": "",
		"LET RECURSIVE F(_) F(n) == n b == 2 IN F(b)": "LET RECURSIVE F(_) F(n) == n IN LET b == 2 IN F(b)", "LET RECURSIVE f f == f IN f": "", "LET f(x, y) == x IN f(1, 2)": "",
		`{x \in S}`: "", `{x \in S : p}`: "", `{x : x \in S, y \in T}`: "", `{(x \in S) : y \in T}`: "", "{}": "", "{a, b}": "", `{x \in S, y}`: "", `{x \in {y \in T}}`: "", "<<>>": "", "<<a, b>>": "", "<<A>>_v": "", "<<A>>_<<x, y>>": "", "[A]_(x')": "", "[][A]_v": "",
		`[x \in S |-> e]`: "", `[x, y \in S |-> e]`: `[x \in S, y \in S |-> e]`, "[a |-> 1, b |-> 2]": "", "[a : S, b : T]": "", "[S -> T]": "", `[x \in S -> T]`: "", `[x \in [y \in T |-> y] -> T]`: "", "r.a.b": "", "f[1, 2][3]": "", "F(LAMBDA x, y : x + y, 3)": "", "M!F(x)": "", "M ! c": "M!c",
		"[f EXCEPT ![1].a = @ + 1, ![2] = 0]": `[[f EXCEPT ![1] = [@ EXCEPT !["a"] = @ + 1]] EXCEPT ![2] = 0]`, "[f EXCEPT ![1, 2] = 0]": "[f EXCEPT ![<<1, 2>>] = 0]", "[f EXCEPT !.a.b.c = 0]": `[f EXCEPT !["a"] = [@ EXCEPT !["b"] = [@ EXCEPT !["c"] = 0]]]`,
		"WF_vars(A)": "", "SF_<<x>>(A)": "", "WF_(x')(A)": "", `a \X b \X c`: "", `a \X (b \X c)`: "", `a \X b ^ c \X d`: "", `"a b"`: "", "TRUE": "", "a - -b": "", "- - a": "-(-a)", "-~a": "-(~a)", "x =< y": "x <= y", "DOMAIN f[x]": "", "SUBSET UNION a": "",
		`/\ a /\ b`: `a /\ b`, `a = \/ b`: "a = b", `~ /\ a`: "~a", "a (* c *) + b": "a + b", "1[2]": "(1)[2]", `a \cdot b \cdot c`: "", "x' = y'": "", "ENABLED (x = y)": "", `a /\ ~b`: "", "BOOLEAN": "", "@@": "?", "a @@ b :> c": "", "a => b => c": "?",
	} {
		e, p, err := ParseExpr([]string{s})
		if want == "?" {
			if err == api.OK {
				t.Errorf("%s: OK", s)
			}
			continue
		}
		if want == "" {
			want = s
		}
		if err != api.OK || p != place(0, 0) {
			t.Errorf("%s: %v %d", s, p, err)
		} else if got := format(t, e); got != want {
			t.Errorf("%s: %s", s, got)
		}
	}
	e, _, _ := ParseExpr([]string{"a + b * c"})
	want := exprs.Apply("+", exprs.Name("a"), exprs.Apply("*", exprs.Name("b"), exprs.Name("c")))
	if !exprs.Same(e, want) {
		t.Errorf("%v", e)
	}
}

func TestParseErrors(t *testing.T) {
	deep := func(n int) string { return strings.Repeat("(", n) + "\na" + strings.Repeat(")", n) }
	for _, c := range []struct {
		s   string
		p   api.TextPlace
		err api.Errno
	}{
		{"", place(1, 0), api.ErrEnd}, {"a +", place(1, 0), api.ErrEnd}, {"a\n+\n\n", place(4, 0), api.ErrEnd}, {"a b", place(0, 2), api.ErrSyntax}, {"a /\\ b \\/ c", place(0, 7), api.ErrClash}, {"a * -b", place(0, 4), api.ErrClash}, {"a = ~b", place(0, 4), api.ErrClash},
		{"ENABLED x = y", place(0, 10), api.ErrClash}, {"UNCHANGED x'", place(0, 11), api.ErrClash}, {"a = b = c", place(0, 6), api.ErrClash}, {"a + b % c", place(0, 6), api.ErrClash}, {`a \X b * c`, place(0, 7), api.ErrClash}, {"a => b => c", place(0, 7), api.ErrClash},
		{"/\\ a\n/\\", place(2, 0), api.ErrEnd}, {"/\\ a =\n/\\ b", place(1, 0), api.ErrColumn}, {"/\\ (a\n) /\\ b", place(1, 0), api.ErrColumn}, {"(/\\ a\n) /\\ b", place(0, 0), api.OK}, {" /\\ a\n  b", place(1, 2), api.ErrSyntax}, {" /\\ a\nb", place(1, 0), api.ErrSyntax},
		{"/\\ \\/ a\n   /\\ b", place(0, 0), api.OK}, {"(* a", place(0, 0), api.ErrOpen}, {"a &", place(0, 2), api.ErrSyntax}, {"x'[1]", place(0, 2), api.ErrSyntax}, {"IF a THEN b", place(1, 0), api.ErrEnd}, {"{x \\in S = T : p}", place(0, 13), api.ErrSyntax + 100},
		{"@", place(0, 0), api.ErrState}, {"F(LAMBDA x : x) + LAMBDA y : y", place(0, 18), api.ErrSyntax}, {"LAMBDA x : x", place(0, 0), api.ErrSyntax}, {"BOOLEAN(a)", place(0, 0), api.ErrName}, {"IF", place(1, 0), api.ErrEnd}, {"f[]", place(0, 1), api.ErrSyntax},
		{"LET RECURSIVE F(_) G(n) == n IN 1", place(0, 19), api.ErrSyntax}, {"LET RECURSIVE F(_) F == n IN 1", place(0, 21), api.ErrSyntax}, {"LET RECURSIVE F(_) F(a, b) == n IN 1", place(0, 22), api.ErrSyntax}, {"LET RECURSIVE F(_, _) F(a) == n IN 1", place(0, 25), api.ErrSyntax}, {"LET RECURSIVE F F(a) == n IN 1", place(0, 17), api.ErrSyntax},
		{deep(59), place(0, 0), api.OK}, {deep(60), place(1, 0), api.ErrLarge}, {"<<a, b>>_v", place(0, 6), api.ErrSyntax}, {"\\A x \\in S, y : p", place(0, 14), api.ErrSyntax}, {"a \\X b \\X c \\X d \\X e", place(0, 0), api.ErrArity}, {"{x \\in }", place(0, 7), api.ErrSyntax},
		{"CASE OTHER -> a", place(0, 0), api.ErrShape}, {"()", place(0, 1), api.ErrSyntax}, {"F()", place(0, 2), api.ErrSyntax}, {"\\A x, x \\in S : p", place(0, 0), api.ErrDouble}, {"[a EXCEPT b]", place(0, 10), api.ErrSyntax}, {"[a EXCEPT ! = b]", place(0, 12), api.ErrSyntax},
		{"a ==", place(0, 2), api.ErrSyntax}, {"A!B!C", place(0, 3), api.ErrSyntax}, {"---- a", place(0, 0), api.ErrSyntax}, {"[x, y |-> 3]", place(0, 6), api.ErrSyntax},
		// a "|->" that a list around ends says nothing of the bracket
		{"/\\[y\\in v\\in\n|->", place(0, 9), api.ErrClash}, {"/\\[y\\in v\\in", place(0, 9), api.ErrClash}, {"/\\ \\/ [y \\in v \\in\n  |-> 1]", place(0, 15), api.ErrClash}, {"/\\ \\/ [y \\in v \\in w\n   |-> 1]", place(0, 15), api.ErrClash}, {"/\\ \\/ [y \\in v \\in w\n    |-> 1]", place(0, 0), api.OK}, {"/\\ a\n/\\ [y \\in v \\in\n w |-> 1]", place(0, 0), api.OK}, {"/\\ [y, z\n|-> 1]", place(0, 5), api.ErrSyntax}, {"/\\ [y, z", place(0, 5), api.ErrSyntax}, {"/\\ [y \\in S\n|-> 1]", place(1, 0), api.ErrColumn}, {"[y \\in v \\in /\\ w\n|-> 1]", place(0, 0), api.OK},
		{"/\\ [y \\in v \\in w\n/\\ x |-> 1]", place(0, 12), api.ErrClash}, {"( /\\ [y \\in v \\in w\n) |-> 1]", place(0, 14), api.ErrClash},
	} {
		l := strings.Split(c.s, "\n")
		e, p, err := ParseExpr(l)
		if c.err > 100 { // the set of a filter takes "=", the element of a set does not
			if e, _, err := ParseExpr(l); err != api.OK || format(t, e) != "{x \\in S = T : p}" {
				t.Errorf("%q: %d", c.s, err)
			}
			continue
		}
		if p != c.p || err != c.err || err != api.OK && e != nil {
			t.Errorf("%q: %v %d", c.s, p, err)
		}
		if _, err := ListsIn(l); err != c.err {
			t.Errorf("%q: lists %d", c.s, err)
		}
		if _, err := Bracketed(l); err != c.err {
			t.Errorf("%q: bracketed %d", c.s, err)
		}
		if both, q, err := ConflictIn(l); c.err == api.OK && (err != api.ErrNone || q != place(0, 0)) || c.err == api.ErrClash && (err != api.OK || q != c.p || len(both) != 2) || c.err != api.OK && c.err != api.ErrClash && (err != c.err || q != c.p) {
			t.Errorf("%q: conflict %v %d", c.s, q, err)
		}
	}
}

func TestManyNodes(t *testing.T) {
	nested := "p"
	for range 10 {
		nested = `\A a, b, c, d \in (` + nested + ") : p"
	}
	var l []string
	for len(nested) > 100 {
		cut := strings.LastIndex(nested[:100], " ")
		l, nested = append(l, nested[:cut]), nested[cut:]
	}
	if _, p, err := ParseExpr(append(l, nested)); err != api.ErrLarge || p != place(0, 0) {
		t.Errorf("%v %d", p, err)
	}
	filters := strings.Repeat(`{a \in `, 15)
	if _, _, err := ParseExpr([]string{filters, filters, filters, "b" + strings.Repeat("}", 45)}); err != api.OK {
		t.Error(err)
	}
}

func TestConflicts(t *testing.T) {
	for s, want := range map[string]string{`a /\ b \/ c`: `/\ \/`, "a * -b": "* -.", "UNCHANGED x'": "UNCHANGED '", "a = b # c": "= #", "-a ^ b % c + d": "% +", "a =< b \\geq c": "<= >=", "ENABLED a + b": "ENABLED +"} {
		both, _, err := ConflictIn([]string{s})
		if strings.Join(both, " ") != want || err != api.OK {
			t.Errorf("%s: %v %d", s, both, err)
		}
	}
}

func TestParseTokens(t *testing.T) {
	read := func(s string) []api.Token {
		l, _, err := tokens.TokensOf(strings.Split(s, "\n"))
		if err != api.OK {
			t.Fatal(err)
		}
		return l
	}
	symbol := func(s string, line, column int) api.Token {
		return api.Token{Kind: api.TokenSymbol, Text: s, Line: line, Column: column}
	}
	a := api.Token{Kind: api.TokenName, Text: "a", Line: -9, Column: -9}
	for i, c := range []struct {
		l      []api.Token
		at     int
		err    api.Errno
		before int
		other  api.Errno
	}{
		{read("a + b"), 3, api.OK, 3, api.OK}, {read("a + b c"), 3, api.ErrSyntax, 3, api.OK}, {nil, 0, api.ErrEnd, 0, api.ErrEnd}, {read("a +"), 2, api.ErrEnd, 2, api.ErrEnd}, {read("a /\\ b \\/ c"), 3, api.ErrClash, 3, api.ErrClash}, {read("@ a"), 1, api.ErrSyntax, 0, api.ErrState},
		{[]api.Token{a, symbol("+", -9, -8), symbol("x", 0, 0)}, 2, api.ErrSyntax, 2, api.ErrSyntax}, {[]api.Token{a, symbol("'", -9, -9)}, 1, api.ErrOrder, 1, api.ErrOrder}, {[]api.Token{a, symbol("'", -10, 5)}, 1, api.ErrOrder, 1, api.ErrOrder}, {[]api.Token{a, symbol("'", -9, -8)}, 2, api.OK, 2, api.OK},
		{[]api.Token{a, {Kind: 17}}, 1, api.ErrKind, 1, api.ErrKind}, {make([]api.Token, 1201), 0, api.ErrLarge, 0, api.ErrLarge}, {[]api.Token{a, {Kind: api.TokenRule, Text: strings.Repeat("-", 200), Line: 1}}, 1, api.ErrSyntax, 1, api.OK}, {read("/\\ a\n/\\ b\nc"), 4, api.ErrSyntax, 4, api.OK},
		{read("a == b"), 1, api.ErrSyntax, 1, api.OK}, {read("@"), 0, api.ErrState, 0, api.ErrState},
	} {
		if _, at, err := ParseTokens(c.l); at != c.at || err != c.err {
			t.Errorf("%d: %d %d", i, at, err)
		}
		if _, at, err := ParsePrefix(c.l); at != c.before || err != c.other {
			t.Errorf("%d: prefix %d %d", i, at, err)
		}
	}
}

func TestLists(t *testing.T) {
	text := []string{`/\ a`, `/\ \/ b`, `   \lor c`, "=> d"}
	e, _, err := ParseExpr(text)
	if err != api.OK || format(t, e) != `a /\ (b \/ c) => d` {
		t.Errorf("%v %d", e, err)
	}
	l, err := ListsIn(text)
	want := []api.Junction{{Symbol: `/\`, Items: 2}, {Symbol: `\/`, Line: 1, Column: 3, Items: 2}}
	if err != api.OK || !slices.Equal(l, want) {
		t.Errorf("%v %d", l, err)
	}
	b, err := Bracketed(text)
	if s, _ := tokens.JoinedText(b); err != api.OK || s != `((a)/\(((b)\/(c))))=>d` {
		t.Errorf("%s %d", s, err)
	}
	for i, x := range b {
		if x.Line != 0 || x.Column != i {
			t.Errorf("%v", x)
		}
	}
	for s, want := range map[string]string{"/\\ a\n/\\ b\n/\\ c": `((a)/\(b)/\(c))`, "/\\ a /\\ b": `((a/\b))`, "(\\/ a\n)": "(((a)))", "f[/\\ a\n  \\/ b]": `f[((a))\/b]`, "x \\leq 1": "x<=1", "{x \\in /\\ a}": `{x\in((a))}`, "a": "a"} {
		b, err := Bracketed(strings.Split(s, "\n"))
		if got, _ := tokens.JoinedText(b); got != want || err != api.OK {
			t.Errorf("%q: %s", s, got)
		}
		e, _, _ := ParseExpr(strings.Split(s, "\n"))
		if f, _, err := ParseTokens(b); !exprs.Same(e, f) || err != api.OK {
			t.Errorf("%q: %v %d", s, f, err)
		}
	}
	if l, err := ListsIn([]string{`{x \in /\ a}`}); len(l) != 1 || err != api.OK {
		t.Errorf("%v %d", l, err)
	}
}

func TestLinesOf(t *testing.T) {
	e, _, _ := ParseExpr([]string{`/\ a`, `/\ \/ b`, `   \/ c`, "=> d"})
	if l, err := LinesOf(e); !slices.Equal(l, []string{`a /\ (b \/ c) => d`}) || err != api.OK {
		t.Errorf("%q", l)
	}
	e, _, _ = ParseExpr([]string{`/\ a /\ (d /\ e)`, `/\ \/ b`, `   \/ c`})
	if l, err := LinesOf(e); !slices.Equal(l, []string{`/\ a`, `/\ /\ d`, `   /\ e`, `/\ \/ b`, `   \/ c`}) || err != api.OK {
		t.Errorf("%q", l)
	}
	long := strings.Repeat("a", 24)
	var kids []api.Expr
	for range 9 {
		kids = append(kids, exprs.Name(long))
	}
	e = exprs.Apply(`/\`, exprs.Name("p"), exprs.Make(api.Node{Kind: api.ExprTuple}, kids...))
	want := []string{`/\ p`, `/\ <<` + strings.Repeat(long+", ", 2) + long + ",", "     " + strings.Repeat(long+", ", 2) + long + ",", "     " + strings.Repeat(long+", ", 2) + long + ">>"}
	if l, err := LinesOf(e); !slices.Equal(l, want) || err != api.OK {
		t.Errorf("%q", l)
	}
	text := api.Expr{{Kind: api.ExprString, Text: strings.Repeat("a ", 20)}}
	e = exprs.Make(api.Node{Kind: api.ExprSet}, text, text, text, exprs.Name("b"))
	s := `"` + text[0].Text + `"`
	if l, err := LinesOf(e); !slices.Equal(l, []string{"{" + s + ", " + s + ",", "  " + s + ", b}"}) || err != api.OK {
		t.Errorf("%q", l)
	}
	e = exprs.Make(api.Node{Kind: api.ExprTuple}, exprs.Name(strings.Repeat("b", 24)), exprs.Name(strings.Repeat("c", 24)), exprs.Name(strings.Repeat("d", 24)), exprs.Name(strings.Repeat("e", 18)), exprs.Name("f"))
	if l, _ := LinesOf(e); len(l) != 2 || len(l[0]) != 99 {
		t.Errorf("%q %d", l, len(l[0]))
	}
	f := func(s string) api.Expr { return exprs.Make(api.Node{Kind: api.ExprField, Text: s}, exprs.Name("x")) }
	e = f(long)
	for range 4 {
		e = exprs.Make(api.Node{Kind: api.ExprField, Text: long}, e)
	}
	if _, err := LinesOf(e); err != api.ErrLarge {
		t.Error(err)
	}
	if _, err := LinesOf(nil); err != api.ErrEmpty {
		t.Error(err)
	}
	e = exprs.Name("p")
	for i := range 24 {
		e = exprs.Apply([]string{`/\`, `\/`}[i%2], exprs.Name("q"), e)
	}
	l, err := LinesOf(e)
	if err != api.OK || !strings.HasPrefix(l[len(l)-1], strings.Repeat(" ", 60)+`\/ `) && !strings.HasPrefix(l[len(l)-1], strings.Repeat(" ", 60)+`/\ `) {
		t.Errorf("%q %d", l, err)
	}
}

// maker makes expressions by chance.
type maker struct{ *rand.Rand }

func (m maker) name() string { return string(rune('a'+m.Intn(5))) + "_x" }

func (m maker) names(n int) []string {
	l := []string{"a_x", "b_x", "c_x", "d_x", "e_x"}
	m.Shuffle(5, func(i, j int) { l[i], l[j] = l[j], l[i] })
	return l[:n]
}

func (m maker) node(kind, n int, names int, depth int, old bool) api.Expr {
	var kids []api.Expr
	for i := range n {
		kids = append(kids, m.expr(depth-1, old || kind == api.ExprExcept && i == 2))
	}
	x := api.Node{Kind: kind, Names: m.names(names)}
	switch {
	case kind == api.ExprField:
		x.Text = m.name()
	case kind == api.ExprLet:
		x.N = m.Intn(2)
	}
	return exprs.Make(x, kids...)
}

func (m maker) expr(depth int, old bool) api.Expr {
	if depth <= 0 || m.Intn(8) == 0 {
		switch m.Intn(6) {
		case 0:
			return api.Expr{{Kind: api.ExprNumber, N: m.Intn(100)}}
		case 1:
			return api.Expr{{Kind: api.ExprString, Text: "s ("}}
		case 2:
			if old {
				return api.Expr{{Kind: api.ExprOld}}
			}
			return exprs.Name([]string{"TRUE", "STRING", "M!x"}[m.Intn(3)])
		}
		return exprs.Name(m.name())
	}
	if m.Intn(3) > 0 {
		l := tree.Operators()
		o, _ := tree.OperatorOf(l[m.Intn(len(l))])
		if m.Intn(3) == 0 {
			o, _ = tree.OperatorOf([]string{`/\`, `\/`}[m.Intn(2)])
		}
		var kids []api.Expr
		for range o.Least + m.Intn(o.Most-o.Least+1) {
			kids = append(kids, m.expr(depth-1, old))
		}
		return exprs.Apply(o.Text, kids...)
	}
	n := 1 + m.Intn(3)
	switch kind := m.Intn(api.ExprKinds); kind {
	case api.ExprNumber, api.ExprString, api.ExprName, api.ExprOld, api.ExprLambda:
		x := api.Node{Kind: api.ExprLambda, Names: m.names(n)}
		return exprs.Apply(m.name(), exprs.Make(x, m.expr(depth-1, old)), m.expr(depth-1, old))
	case api.ExprApply:
		return exprs.Apply("M!F", m.expr(depth-1, old))
	case api.ExprTuple, api.ExprSet:
		return m.node(kind, n-1, 0, depth, old)
	case api.ExprFilter, api.ExprChoose:
		return m.node(kind, 2, 1, depth, old)
	case api.ExprMap, api.ExprAll, api.ExprSome, api.ExprFunc:
		return m.node(kind, n+1, n, depth, old)
	case api.ExprAny, api.ExprExists:
		return m.node(kind, 1, n, depth, old)
	case api.ExprCall, api.ExprCase:
		return m.node(kind, n+1, 0, depth, old)
	case api.ExprRecord, api.ExprRecords:
		return m.node(kind, n, n, depth, old)
	case api.ExprField:
		return m.node(kind, 1, 0, depth, old)
	case api.ExprExcept, api.ExprIf:
		return m.node(kind, 3, 0, depth, old)
	case api.ExprLet:
		return m.node(kind, 2, n, depth, old)
	default:
		return m.node(kind, 2, 0, depth, old)
	}
}

func TestByChance(t *testing.T) {
	m := maker{rand.New(rand.NewSource(1))}
	texts := map[string]api.Expr{}
	tried := 0
	for range 6000 {
		e := m.expr(1+m.Intn(5), false)
		if _, err := tree.CheckExpr(e); err != api.OK {
			continue
		}
		s := format(t, e)
		if f, is := texts[s]; is && !exprs.Same(e, f) {
			t.Fatalf("one text, two trees: %s", s)
		}
		texts[s] = e
		c, err := tree.Canonical(e)
		alike, _ := tree.AreAlike(c, e)
		again, _ := tree.Canonical(c)
		if err != api.OK || !alike || !exprs.Same(c, again) {
			t.Fatalf("canonical: %s", s)
		}
		lines, err := LinesOf(e)
		if err == api.ErrLarge {
			continue
		}
		tried++
		f, p, err := ParseExpr(lines)
		if err != api.OK || !exprs.Same(e, f) {
			t.Fatalf("lines: %s\n%s\n%v %d", s, strings.Join(lines, "\n"), p, err)
		}
		if len(s) <= api.MaxColumns {
			if f, p, err := ParseExpr([]string{s}); err != api.OK || !exprs.Same(e, f) {
				t.Fatalf("text: %s %v %d", s, p, err)
			}
		}
		b, err := Bracketed(lines)
		if f, at, err2 := ParseTokens(b); err != api.OK || err2 != api.OK || !exprs.Same(e, f) {
			t.Fatalf("bracketed: %s %d %d %d", s, at, err, err2)
		}
		for i := range lines {
			lines[i] = "   " + lines[i]
		}
		if f, _, err := ParseExpr(lines); err == api.OK && !exprs.Same(e, f) {
			t.Fatalf("moved: %s", s)
		}
	}
	if tried < 3000 {
		t.Errorf("%d", tried)
	}
}
