package tokens

import (
	"slices"
	"strings"
	"testing"

	"stutter/api"
)

func textsOf(l []api.Token) []string {
	var out []string
	for _, t := range l {
		out = append(out, t.Text)
	}
	return out
}

func place(line, column int) api.TextPlace { return api.TextPlace{Line: line, Column: column} }

func repeated(s string, n int) []string {
	var out []string
	for range n {
		out = append(out, s)
	}
	return out
}

func TestCheckLines(t *testing.T) {
	for _, c := range []struct {
		l []string
		n int
		e api.Errno
	}{
		{nil, 0, api.OK},
		{[]string{"a", ""}, 2, api.OK},
		{repeated("", 300), 300, api.OK},
		{repeated("", 301), 0, api.ErrLarge},
		{[]string{"", strings.Repeat(" ", 120)}, 2, api.OK},
		{[]string{"", strings.Repeat("\t", 121)}, 1, api.ErrLarge},
		{[]string{"~ ", "a", "\x7f"}, 2, api.ErrForm},
		{[]string{"\x1f"}, 0, api.ErrForm},
	} {
		if n, e := CheckLines(c.l); n != c.n || e != c.e {
			t.Errorf("%q: %d %d", c.l, n, e)
		}
	}
}

func TestTokensOfTexts(t *testing.T) {
	for s, want := range map[string]string{
		"a--b": "a - - b", "a----b": "a ---- b", "a-----b": "a ----- b", "=====": "=====", "===": "== =", "[][A]_v": "[] [ A ]_ v",
		"x[]": "x []", "WF_vars(A)": "WF_ vars ( A )", "SF_x": "SF_ x", "_x": "_x", "__": "_ _", "1x": "1x", "1..3": "1 .. 3",
		"a.b": "a . b", `a \ b`: `a \ b`, `\*  *)`: "", `(* a "b *)`: "", `"(*"`: `"(*"`, "(* (* *) x *)y": "y", `(* \* *) y`: "y",
		`/\* x`: `/\ * x`, "<=><=<-<<<": "<=> <= <- << <", "(+)(-)": "(+) (-)", "a|->b||c": "a |-> b || c", "@@@": "@@ @", "0 10000": "0 10000",
		`\intersect\in`: `\intersect \in`, `\_ \1`: `\ _ \ 1`, `a \* b " (*`: "a", "-.5": "-. 5", "1_": "1 _", "...": ".. .", ":>:=::": ":> := : :",
		"WF_abcdefghijklmnopqrstuvwxyz1": "?",
	} {
		l, p, e := TokensOf([]string{s})
		if want == "?" {
			if e != api.ErrName || p != place(0, 3) {
				t.Errorf("%q: %v %d", s, p, e)
			}
			continue
		}
		if got := strings.Join(textsOf(l), " "); got != want || e != api.OK || p != place(0, 0) {
			t.Errorf("%q: %q %d", s, got, e)
		}
	}
	l, _, _ := TokensOf([]string{`IF x 12 "a b"`, `  /\ ---- TRUE STRING`})
	want := []api.Token{{Kind: api.TokenWord, Text: "IF"}, {Kind: api.TokenName, Text: "x", Column: 3}, {Kind: api.TokenNumber, Text: "12", Column: 5},
		{Kind: api.TokenString, Text: `"a b"`, Column: 8}, {Kind: api.TokenSymbol, Text: `/\`, Line: 1, Column: 2}, {Kind: api.TokenRule, Text: "----", Line: 1, Column: 5},
		{Kind: api.TokenWord, Text: "TRUE", Line: 1, Column: 10}, {Kind: api.TokenName, Text: "STRING", Line: 1, Column: 15}}
	if !slices.Equal(l, want) {
		t.Errorf("%v", l)
	}
}

func TestTokensOfErrors(t *testing.T) {
	for _, c := range []struct {
		s string
		p api.TextPlace
		e api.Errno
	}{
		{"a (* b", place(0, 2), api.ErrOpen}, {"a\n (* (* *)\nb", place(1, 1), api.ErrOpen}, {"x \"a", place(0, 2), api.ErrOpen},
		{`"a\"`, place(0, 0), api.ErrSyntax}, {`"a\`, place(0, 0), api.ErrOpen}, {"x *)", place(0, 2), api.ErrSyntax},
		{`x \inx`, place(0, 2), api.ErrSyntax}, {`a\b`, place(0, 1), api.ErrSyntax}, {"007", place(0, 0), api.ErrSyntax}, {"00", place(0, 0), api.ErrSyntax},
		{"10001", place(0, 0), api.ErrRange}, {"99999999999999999999999", place(0, 0), api.ErrRange}, {"a & b", place(0, 2), api.ErrSyntax},
		{strings.Repeat("a", 25), place(0, 0), api.ErrName}, {strings.Repeat("a", 24), place(0, 0), api.OK},
		{`"` + strings.Repeat("a", 41) + `"`, place(0, 0), api.ErrLarge}, {`"` + strings.Repeat("a", 40) + `"`, place(0, 0), api.OK},
		{"& (*", place(0, 0), api.ErrSyntax}, {"a\n\t", place(1, 0), api.ErrForm}, {"& \n\t", place(1, 0), api.ErrForm}, {"/ a", place(0, 0), api.ErrSyntax},
		{strings.Repeat("+\n", 100) + strings.Repeat(strings.Repeat("+", 110)+"\n", 10), place(0, 0), api.OK},
		{strings.Repeat("+\n", 101) + strings.Repeat(strings.Repeat("+", 110)+"\n", 10), place(0, 0), api.ErrLarge},
	} {
		l, p, e := TokensOf(strings.Split(c.s, "\n"))
		if p != c.p || e != c.e || e != api.OK && l != nil {
			t.Errorf("%q: %v %d", c.s, p, e)
		}
		_, q, f := CommentsIn(strings.Split(c.s, "\n"))
		_, r, g := WithoutComments(strings.Split(c.s, "\n"))
		if q != c.p || f != c.e || r != c.p || g != c.e {
			t.Errorf("%q: comments %v %d %v %d", c.s, q, f, r, g)
		}
	}
}

func TestCheckToken(t *testing.T) {
	for _, c := range []struct {
		k     int
		s     string
		line  int
		colum int
		e     api.Errno
	}{
		{-1, "x", 0, 0, api.ErrKind}, {api.TokenKinds, "", 0, 0, api.ErrKind}, {api.TokenName, "x", 0, 0, api.OK}, {api.TokenName, "IF", 0, 0, api.ErrSyntax},
		{api.TokenWord, "WITNESS", 299, 113, api.OK}, {api.TokenWord, "WITNESS", 299, 114, api.ErrRange}, {api.TokenName, "x", 300, 0, api.ErrRange},
		{api.TokenName, "x", -1, 0, api.ErrRange}, {api.TokenName, "x", 0, -1, api.ErrRange}, {api.TokenName, "x y", 0, 0, api.ErrSyntax}, {api.TokenName, "", 0, 0, api.ErrSyntax},
		{api.TokenName, " x", 0, 0, api.ErrSyntax}, {api.TokenRule, strings.Repeat("-", 120), 0, 0, api.OK}, {api.TokenRule, strings.Repeat("-", 121), 0, 0, api.ErrRange},
		{api.TokenRule, "---", 0, 0, api.ErrSyntax}, {api.TokenSymbol, "WF_", 0, 0, api.OK}, {api.TokenSymbol, `\land`, 0, 0, api.OK}, {api.TokenSymbol, "(*", 0, 0, api.ErrSyntax},
		{api.TokenSymbol, `\*`, 0, 0, api.ErrSyntax}, {api.TokenNumber, "01", 0, 0, api.ErrSyntax}, {api.TokenNumber, "10001", 0, 0, api.ErrSyntax}, {api.TokenString, "\"\x01\"", 0, 0, api.ErrSyntax},
		{api.TokenString, `"a"`, 0, 0, api.OK}, {api.TokenName, "x", 0, 1<<63 - 1, api.ErrRange}, {api.TokenSymbol, "x", -5, 0, api.ErrSyntax},
	} {
		if e := CheckToken(api.Token{Kind: c.k, Text: c.s, Line: c.line, Column: c.colum}); e != c.e {
			t.Errorf("%v: %d", c, e)
		}
	}
}

func TestReservedWords(t *testing.T) {
	for _, s := range strings.Fields("ASSUME CASE CHOOSE CONSTANT DOMAIN ELSE ENABLED EXCEPT EXTENDS FALSE IF IN INSTANCE LAMBDA LET LOCAL MODULE OTHER RECURSIVE SUBSET THEN THEOREM TRUE UNCHANGED UNION VARIABLES WITH WITNESS") {
		if e := CheckToken(api.Token{Kind: api.TokenWord, Text: s}); e != api.OK {
			t.Errorf("%s: %d", s, e)
		}
	}
	for _, s := range []string{"BOOLEAN", "STRING", "If", "A"} {
		if e := CheckToken(api.Token{Kind: api.TokenName, Text: s}); e != api.OK {
			t.Errorf("%s: %d", s, e)
		}
	}
}

func TestSpellings(t *testing.T) {
	for s, want := range map[string]string{`\land`: `/\`, `\lor`: `\/`, `\lnot`: "~", `\neg`: "~", `\equiv`: "<=>", "/=": "#", "=<": "<=", `\leq`: "<=", `\geq`: ">=",
		`\union`: `\cup`, `\intersect`: `\cap`, "-----": "----", "======": "====", "----": "----", "+": "+", "WF_": "WF_", `\`: `\`, "x": "", "": "", "---": "", "--==": "", "IF": "", "1": ""} {
		got, e := CanonicalText(s)
		if got != want || (e == api.OK) != (want != "") || want == "" && e != api.ErrMissing {
			t.Errorf("%q: %q %d", s, got, e)
		}
	}
	l := SymbolsOf()
	if !slices.IsSorted(l) || len(l) != 76 || len(slices.Compact(slices.Clone(l))) != 76 {
		t.Errorf("%d %v", len(l), l)
	}
	for _, s := range l {
		if e := CheckToken(api.Token{Kind: api.TokenSymbol, Text: s}); e != api.OK {
			t.Errorf("%s: %d", s, e)
		}
	}
	l[0] = "changed"
	if SymbolsOf()[0] == "changed" {
		t.Error("a table is shared")
	}
}

func TestComments(t *testing.T) {
	l := []string{"x (* a (* b *)", "", "\"(*\" *) y \\* (* z", `"\*"`}
	c, _, e := CommentsIn(l)
	want := []api.TextSpan{{From: place(0, 2), To: place(2, 7)}, {From: place(2, 10), To: place(2, 17)}}
	if !slices.Equal(c, want) && e == api.OK {
		t.Errorf("%v %d", c, e)
	}
	l = []string{"x (* a (* b *)", "", "\" *) *) y \\* (* z", `"x"`}
	c, _, e = CommentsIn(l)
	want = []api.TextSpan{{From: place(0, 2), To: place(2, 4)}}
	if e != api.ErrSyntax || c != nil {
		t.Errorf("%v %d %v", c, e, want)
	}
	w, _, e := WithoutComments([]string{"x (* a (* b *)", "yy", "\" *) z \\* (* z", `"x"`})
	if e != api.OK || !slices.Equal(w, []string{"x             ", "  ", "     z        ", `"x"`}) {
		t.Errorf("%q %d", w, e)
	}
	c, _, e = CommentsIn([]string{`a \*`, "(**)(**)"})
	if e != api.OK || !slices.Equal(c, []api.TextSpan{{From: place(0, 2), To: place(0, 4)}, {From: place(1, 0), To: place(1, 4)}, {From: place(1, 4), To: place(1, 8)}}) {
		t.Errorf("%v %d", c, e)
	}
}

func symbol(s string, line, column int) api.Token {
	return api.Token{Kind: api.TokenSymbol, Text: s, Line: line, Column: column}
}

func TestPrintedAt(t *testing.T) {
	for _, c := range []struct {
		l    []api.Token
		n    int
		e    api.Errno
		want []string
	}{
		{nil, 0, api.OK, nil},
		{[]api.Token{symbol("+", 0, 3), symbol("-", 2, 1), symbol("*", 2, 4)}, 3, api.OK, []string{"   +", "", " -  *"}},
		{make([]api.Token, 1201), 0, api.ErrLarge, nil},
		{make([]api.Token, 1200), 0, api.ErrSyntax, nil},
		{[]api.Token{symbol("+", 1, 0), symbol("+", 0, 5)}, 1, api.ErrOrder, nil},
		{[]api.Token{symbol("==", 0, 0), symbol("+", 0, 1)}, 1, api.ErrOrder, nil},
		{[]api.Token{symbol("=", 0, 0), symbol("=", 0, 1)}, 1, api.ErrClash, nil},
		{[]api.Token{symbol("=", 0, 0), symbol("=", 0, 2)}, 1, api.OK, []string{"= ="}},
		{[]api.Token{symbol("(", 0, 0), symbol("+", 0, 1), symbol(")", 0, 2)}, 0, api.ErrClash, nil},
		{[]api.Token{symbol("@", 0, 0), symbol("-", 0, 1), symbol("-", 0, 2), symbol("-", 0, 3), symbol("-", 0, 4)}, 1, api.ErrClash, nil},
		{[]api.Token{symbol("+", 0, 0), symbol("x", 0, 5), symbol("+", 0, 0)}, 1, api.ErrSyntax, nil},
	} {
		l, n, e := PrintedAt(c.l)
		if n != c.n || e != c.e || !slices.Equal(l, c.want) {
			t.Errorf("%v: %q %d %d", c.l, l, n, e)
		}
	}
}

func tokensIn(t *testing.T, s string) []api.Token {
	t.Helper()
	l, _, e := TokensOf([]string{s})
	if e != api.OK {
		t.Fatalf("%q: %d", s, e)
	}
	return l
}

func TestJoinedText(t *testing.T) {
	for s, want := range map[string]string{"x ' = 1": "x'=1", "IF x": "IF x", "( + )": "( +)", "( - 1": "( -1", "- -": "- -", "- >": "- >", `\in x`: `\in x`, "1 _ x": "1_ x", `\ *`: `\ *`, "1 2": "1 2",
		"== =": "===", "= ==": "= ==", "WF_ x": "WF_x", `" " "a"`: `" " "a"`} {
		got, e := JoinedText(tokensIn(t, s))
		if s == `" " "a"` {
			want = `" ""a"`
		}
		if got != want || e != api.OK {
			t.Errorf("%q: %q %d", s, got, e)
		}
	}
	if _, e := JoinedText(make([]api.Token, 1201)); e != api.ErrLarge {
		t.Error(e)
	}
	if _, e := JoinedText([]api.Token{symbol("x", 0, 0), {Kind: 9}}); e != api.ErrSyntax {
		t.Error(e)
	}
	if _, e := JoinedText([]api.Token{{Kind: 9}, symbol("x", 0, 0)}); e != api.ErrKind {
		t.Error(e)
	}
	rule := api.Token{Kind: api.TokenRule, Text: strings.Repeat("-", 20000), Line: -7}
	if s, e := JoinedText([]api.Token{rule}); len(s) != 20000 || e != api.OK {
		t.Error(e)
	}
	if _, e := JoinedText([]api.Token{rule, symbol("+", 0, 0)}); e != api.ErrLarge {
		t.Error(e)
	}
}

func TestMustBeApart(t *testing.T) {
	for _, c := range []struct {
		a, b string
		want bool
	}{{"-", ">", true}, {"a", "b", true}, {"a", "1", true}, {"1", "a", true}, {"a", "+", false}, {"(", "*", true}, {"*", ")", true}, {`\`, "*", true}, {"1", "_", false}, {"_", "1", false}, {"_", "x", true},
		{"[", "]", true}, {"]", "_", true}, {`"a"`, `"b"`, false}, {"SF_", "x", false}, {"x", "SF_", true}, {"----", "-", true}, {"----", "=", false}, {"(", "+", false}, {"/\\", "/\\", false}} {
		a, b := tokensIn(t, c.a)[0], tokensIn(t, c.b)[0]
		if got, e := MustBeApart(a, b); got != c.want || e != api.OK {
			t.Errorf("%v: %v %d", c, got, e)
		}
	}
	good, bad := symbol("+", -1, 0), symbol("x", 0, 0)
	if _, e := MustBeApart(good, bad); e != api.ErrSyntax {
		t.Error(e)
	}
	if _, e := MustBeApart(bad, api.Token{Kind: -1}); e != api.ErrSyntax {
		t.Error(e)
	}
	if _, e := MustBeApart(api.Token{Kind: -1}, bad); e != api.ErrKind {
		t.Error(e)
	}
}

func TestConsequences(t *testing.T) {
	text := []string{"Next == /\\ x' = x + 1 (* a", "  (* b *) c *) /\\ UNCHANGED <<y>> \\* z", `    \/ f[1] = "s" ------ WF_v(A) - - ( + ) (-)1_x`}
	l, _, e := TokensOf(text)
	if e != api.OK {
		t.Fatal(e)
	}
	for i, x := range l {
		if text[x.Line][x.Column:x.Column+len(x.Text)] != x.Text {
			t.Errorf("%v", x)
		}
		if i > 0 && checkBehind(l[i-1], x) == api.ErrOrder {
			t.Errorf("order %v", x)
		}
	}
	w, _, _ := WithoutComments(text)
	m, _, _ := TokensOf(w)
	if !slices.Equal(l, m) {
		t.Error("comments are no blanks")
	}
	p, _, e := PrintedAt(l)
	if m, _, _ = TokensOf(p); !slices.Equal(l, m) || e != api.OK {
		t.Error("printed otherwise", e)
	}
	s, _ := JoinedText(l)
	if m, _, _ = TokensOf([]string{s}); !slices.Equal(textsOf(l), textsOf(m)) {
		t.Errorf("joined otherwise: %s", s)
	}
}
