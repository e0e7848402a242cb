package workbench

import (
	"math/rand"
	"reflect"
	"slices"
	"strconv"
	"strings"
	"testing"

	"stutter/api"
	"stutter/scope"
	"stutter/units"
)

// module returns the text of a module.
func module(name string, lines ...string) api.WorkText {
	return api.WorkText{Name: name, Lines: append(append([]string{"---- MODULE " + name + " ----"}, lines...), "====")}
}

func abText(x string) []api.WorkText {
	return []api.WorkText{module("A", "EXTENDS B", "Y == X + 1"), module("B", x)}
}

func names(l []api.ScopeName) string {
	var out []string
	for _, n := range l {
		out = append(out, n.Module+"."+n.Name)
	}
	return strings.Join(out, " ")
}

func TestCheckProject(t *testing.T) {
	var many []api.WorkText
	for i := range 9 {
		many = append(many, api.WorkText{Name: "T" + strconv.Itoa(i)})
	}
	for i, c := range []struct {
		l   []api.WorkText
		at  int
		err api.Errno
	}{
		{nil, 0, api.OK}, {many, 0, api.ErrLarge}, {many[:8], 0, api.OK}, {abText("X == 1"), 0, api.OK}, {[]api.WorkText{{Name: "B"}, {Name: "A"}}, 1, api.ErrOrder}, {[]api.WorkText{{Name: "B"}, {Name: "B"}}, 1, api.ErrOrder}, {[]api.WorkText{{Name: "B"}, {Name: "1", Lines: []string{"\n"}}}, 1, api.ErrName},
		{[]api.WorkText{{Name: "B"}, {Name: "A", Lines: []string{"\n"}}}, 1, api.ErrForm}, {[]api.WorkText{{Name: "A", Lines: []string{strings.Repeat("x", 121)}}}, 0, api.ErrLarge}, {[]api.WorkText{{Name: "A", Lines: make([]string, 301)}}, 0, api.ErrLarge},
	} {
		if at, err := CheckProject(c.l); at != c.at || err != c.err {
			t.Error(i, at, err)
		}
		_, n, e1 := Applied(c.l, nil)
		_, e2 := UsesOf(c.l)
		_, e3 := OrderOf(c.l)
		_, e4 := ResultsOf(c.l)
		_, _, e5 := Rechecked(c.l, nil)
		if n != 0 || e1 != c.err || e2 != c.err || e3 != c.err || e4 != c.err || e5 != c.err {
			t.Error(i, n, e1, e2, e3, e4, e5)
		}
	}
}

func TestActs(t *testing.T) {
	keep := func(name string) api.WorkAct { return api.WorkAct{Text: api.WorkText{Name: name}} }
	remove := func(name string) api.WorkAct { return api.WorkAct{Remove: true, Text: api.WorkText{Name: name}} }
	for i, c := range []struct {
		acts []api.WorkAct
		at   int
		err  api.Errno
	}{
		{nil, 0, api.OK}, {make([]api.WorkAct, 41), 0, api.ErrLarge}, {slices.Repeat([]api.WorkAct{keep("A")}, 40), 0, api.OK}, {[]api.WorkAct{keep("A"), keep("")}, 1, api.ErrName}, {[]api.WorkAct{{Remove: true, Text: module("A")}}, 0, api.ErrForm}, {[]api.WorkAct{{Remove: true, Text: api.WorkText{Name: "A", Lines: []string{"\t"}}}}, 0, api.ErrForm},
		{[]api.WorkAct{{Remove: true, Text: api.WorkText{Name: "A", Lines: []string{strings.Repeat("x", 121)}}}}, 0, api.ErrLarge},
	} {
		if at, err := CheckActs(c.acts); at != c.at || err != c.err {
			t.Error(i, at, err)
		}
		_, n, e1 := Applied(nil, c.acts)
		_, e2 := JournalOf(c.acts)
		if n != len(c.acts) && c.err == api.OK || n != 0 && c.err != api.OK || e1 != c.err || e2 != c.err {
			t.Error(i, n, e1, e2)
		}
	}
	l := []api.WorkText{{Name: "B", Lines: []string{"b"}}}
	full := []api.WorkAct{keep("A"), keep("C"), keep("D"), keep("E"), keep("F"), keep("G"), keep("H")}
	for i, c := range []struct {
		acts []api.WorkAct
		want string
		at   int
		err  api.Errno
	}{
		{nil, "B", 0, api.OK}, {[]api.WorkAct{keep("C"), keep("A")}, "A B C", 2, api.OK}, {[]api.WorkAct{remove("B")}, "", 1, api.OK}, {[]api.WorkAct{remove("B"), remove("B")}, "", 1, api.ErrMissing}, {full, "A B C D E F G H", 7, api.OK}, {append(full, keep("I")), "", 7, api.ErrLarge}, {append(full, keep("D"), remove("A"), keep("I")), "B C D E F G H I", 10, api.OK},
	} {
		got, n, err := Applied(l, c.acts)
		var have []string
		for _, x := range got {
			have = append(have, x.Name)
		}
		if strings.Join(have, " ") != c.want || n != c.at || err != c.err {
			t.Error(i, have, n, err)
		}
	}
	got, _, _ := Applied(l, []api.WorkAct{{Text: api.WorkText{Name: "B", Lines: []string{"new"}}}})
	if got[0].Lines[0] != "new" || l[0].Lines[0] != "b" {
		t.Error(got, l)
	}
}

func TestUses(t *testing.T) {
	l := []api.WorkText{
		module("A", "EXTENDS Naturals, D", "I == INSTANCE C", "---- MODULE Inner ----", "EXTENDS E", "---- MODULE Deep ----", "====", "J == INSTANCE Deep", "====", "K == INSTANCE Inner", "L == INSTANCE Gone", "M == INSTANCE TLC"),
		module("C"), module("D", "EXTENDS C"), module("E", "INSTANCE F"), module("F", "INSTANCE F"), {Name: "G", Lines: []string{"---- MODULE H ----", "EXTENDS C", "===="}}, {Name: "H", Lines: []string{"EXTENDS"}},
	}
	uses, err := UsesOf(l)
	want := [][]string{{"C", "D", "E", "Gone"}, nil, {"C"}, {"F"}, {"F"}, nil, nil}
	if err != api.OK || len(uses) != len(want) {
		t.Fatal(uses, err)
	}
	for i := range want {
		if !slices.Equal(uses[i], want[i]) {
			t.Error(i, uses[i])
		}
	}
	if order, err := OrderOf(l); strings.Join(order, " ") != "C D G H" || err != api.OK {
		t.Error(order, err)
	}
	l[4] = module("F")
	if order, err := OrderOf(l); strings.Join(order, " ") != "C D F E A G H" || err != api.OK {
		t.Error(order, err)
	}
	if order, err := OrderOf(abText("X == 1")); strings.Join(order, " ") != "B A" || err != api.OK {
		t.Error(order, err)
	}
}

func TestResults(t *testing.T) {
	l := abText("X == 1")
	r, err := ResultsOf(l)
	if err != api.OK || len(r) != 2 || names(r[0].Gives) != "B.X A.Y" || names(r[1].Gives) != "B.X" || !r[0].Checked || !r[1].Checked || len(r[0].Given) != 1 || names(r[0].Given[0]) != "B.X" || len(r[1].Given) != 0 || r[0].Error != api.OK {
		t.Fatal(r, err)
	}
	for _, c := range []struct {
		l    []api.WorkText
		want []api.WorkResult
	}{
		{abText("X(a) == a"), []api.WorkResult{{Error: api.ErrArity, Checked: true}, {Checked: true}}},
		{abText("X == 1")[:1], []api.WorkResult{{Error: api.ErrMissing}}},
		{[]api.WorkText{module("A", "W == 1", "I == INSTANCE A"), module("B", "EXTENDS A"), module("C", "EXTENDS B")}, []api.WorkResult{{Error: api.ErrLoop}, {Error: api.ErrRefused}, {Error: api.ErrRefused}}},
		{[]api.WorkText{module("A", "EXTENDS B"), module("B", "INSTANCE A"), module("C", "INSTANCE A", "INSTANCE Gone"), module("D", "EXTENDS C")}, []api.WorkResult{{Error: api.ErrLoop}, {Error: api.ErrLoop}, {Error: api.ErrMissing}, {Error: api.ErrRefused}}},
		{[]api.WorkText{module("A", "---- MODULE B ----", "===="), module("B"), module("C", "---- MODULE C ----", "====", "INSTANCE Gone")}, []api.WorkResult{{Error: api.ErrClash}, {Checked: true}, {Error: api.ErrClash}}},
		{[]api.WorkText{{Name: "A", Lines: []string{"---- MODULE B ----", "===="}}, module("B", "EXTENDS A"), {Name: "C", Lines: []string{"---- MODULE TLC ----", "===="}}, module("TLC"), module("X", "EXTENDS TLC", "P == Print")}, []api.WorkResult{{Error: api.ErrName}, {Error: api.ErrRefused}, {Error: api.ErrName}, {Error: api.ErrExists}, {Error: api.ErrMissing, Unit: 0, Checked: true}}},
		{[]api.WorkText{module("A", "X == 1", "Y == ", "Z == 2")}, []api.WorkResult{{Error: api.ErrSyntax, Place: api.TextPlace{Line: 3, Column: 2}}}},
		{[]api.WorkText{{Name: "A"}}, []api.WorkResult{{Error: api.ErrEnd}}},
		{[]api.WorkText{module("A", "X == 1", "Y == Z"), module("B", "EXTENDS A")}, []api.WorkResult{{Error: api.ErrMissing, Unit: 1, Checked: true}, {Error: api.ErrRefused}}},
	} {
		r, err := ResultsOf(c.l)
		if err != api.OK || len(r) != len(c.want) {
			t.Error(c.l, r, err)
			continue
		}
		for i, w := range c.want {
			if r[i].Error != w.Error || r[i].Place != w.Place || r[i].Unit != w.Unit || r[i].Checked != w.Checked || !reflect.DeepEqual(r[i].Text, c.l[i]) || !w.Checked && (len(r[i].Given) > 0 || len(r[i].Gives) > 0) {
				t.Error(c.l[i], r[i])
			}
		}
	}
}

func TestRechecked(t *testing.T) {
	first, _ := ResultsOf(abText("X == 1"))
	for _, c := range []struct {
		l    []api.WorkText
		want string
	}{
		{abText("X == 1"), ""}, {abText("X == 2"), "B"}, {abText("X(a) == a"), "B A"}, {abText("X == 1")[:1], ""}, {abText("X == 1")[1:], ""}, {[]api.WorkText{module("A", "EXTENDS B", "Y == X"), module("B", "X == 1")}, "A"}, {abText("LOCAL Z == 3 X == 1"), "B"}, {abText("Z == 3 X == 1"), "B A"},
	} {
		got, checked, err := Rechecked(c.l, first)
		all, _ := ResultsOf(c.l)
		if strings.Join(checked, " ") != c.want || err != api.OK || !reflect.DeepEqual(got, all) {
			t.Error(c.l, checked, got, all, err)
		}
	}
	// A text that was wrong and becomes right is checked, and so are those that had ErrRefused because of it.
	wrong, _ := ResultsOf(abText("X == Q"))
	if _, checked, _ := Rechecked(abText("X == 1"), wrong); strings.Join(checked, " ") != "B A" {
		t.Error(checked)
	}
	// Of two old results of one text the first one counts, and it is taken as it is.
	strange := first[1]
	strange.Error, strange.Unit, strange.Place = api.ErrTorn, 7, api.TextPlace{Line: 3}
	got, checked, err := Rechecked(abText("X == 1"), []api.WorkResult{strange, first[1], first[0]})
	if len(checked) > 0 || got[1].Error != api.ErrTorn || got[1].Unit != 7 || got[1].Place.Line != 3 || got[0].Error != api.ErrRefused || got[0].Checked || err != api.OK {
		t.Error(got, checked, err)
	}
	strange.Checked = false
	if got, checked, _ := Rechecked(abText("X == 1"), []api.WorkResult{strange, first[1], first[0]}); strings.Join(checked, " ") != "B" || got[1].Error != api.OK {
		t.Error(got, checked)
	}
	for _, change := range []func(r *api.WorkResult){func(r *api.WorkResult) { r.Uses = []string{"C"} }, func(r *api.WorkResult) { r.Given = nil }, func(r *api.WorkResult) { r.Given = [][]api.ScopeName{nil} }, func(r *api.WorkResult) { r.Text.Name = "C" }, func(r *api.WorkResult) { r.Text.Lines = nil }} {
		other := first[0]
		change(&other)
		if _, checked, _ := Rechecked(abText("X == 1"), []api.WorkResult{first[1], other}); strings.Join(checked, " ") != "A" {
			t.Error(other, checked)
		}
	}
	_, _, e1 := Rechecked(nil, make([]api.WorkResult, 33))
	_, _, e2 := Rechecked(nil, make([]api.WorkResult, 32))
	_, _, e3 := Rechecked([]api.WorkText{{}}, make([]api.WorkResult, 33))
	if e1 != api.ErrLarge || e2 != api.OK || e3 != api.ErrName {
		t.Error(e1, e2, e3)
	}
}

func TestJournal(t *testing.T) {
	acts := []api.WorkAct{{Text: module("B", "")}, {Text: api.WorkText{Name: "A"}}, {Remove: true, Text: api.WorkText{Name: "B"}}, {Text: api.WorkText{Name: "C", Lines: []string{""}}}}
	journal, err := JournalOf(acts)
	if err != api.OK || !strings.HasSuffix(journal, "-1:B;67;+2:C\n;"+strconv.Itoa(68*257+11)+";") {
		t.Fatal(journal, err)
	}
	if s, err := JournalOf(nil); s != "" || err != api.OK {
		t.Error(s, err)
	}
	if s, _ := JournalOf([]api.WorkAct{{Remove: true, Text: api.WorkText{Name: "A"}}}); s != "-1:A;66;" {
		t.Error(s)
	}
	got, n, err := Recovered(journal)
	if again, _ := JournalOf(got); again != journal || n != len(journal) || len(got) != len(acts) || err != api.OK {
		t.Error(got, n, err)
	}
	for s, want := range map[string]int{
		"": 0, "-1:A;66;": 1, "-1:A;66": 0, "-1:A;67;": 0, "-01:A;66;": 0, "-1:A;066;": 0, "-+1:A;66;": 0, "*1:A;66;": 0, "-2:A;66;": 0, "-1:A66;": 0, "-1A;66;": 0, "-1:1;50;": 0, "-2:A\n;" + strconv.Itoa(66*257+11) + ";": 0, "+2:A\n;" + strconv.Itoa(66*257+11) + ";": 1, "-1:A;66;-1:A;66;": 2, "-1:A;66;x-1:A;66;": 1, "-1:A;66;+": 1,
		"+3:A\n\t;" + strconv.Itoa((66*257+11)*257%1000003+10) + ";": 0, "--1:A;66;": 0, "-99999999999999999999:A;66;": 0,
	} {
		if l, n, err := Recovered(s); len(l) != want || err != api.OK || n > len(s) {
			t.Errorf("%q: %v %d %d", s, l, n, err)
		}
	}
	if l, n, err := Recovered(strings.Repeat("-1:A;66;", 45)); len(l) != 40 || n != 320 || err != api.OK {
		t.Error(len(l), n, err)
	}
	_, _, e1 := Recovered(strings.Repeat(" ", 40001))
	_, _, e2 := Recovered(strings.Repeat(" ", 40000))
	_, e3 := Compacted(strings.Repeat(" ", 40001))
	big := api.WorkAct{Text: api.WorkText{Name: "A", Lines: slices.Repeat([]string{strings.Repeat("x", 120)}, 300)}}
	_, e4 := JournalOf([]api.WorkAct{big})
	_, e5 := JournalOf([]api.WorkAct{big, big})
	if e1 != api.ErrLarge || e2 != api.OK || e3 != api.ErrLarge || e4 != api.OK || e5 != api.ErrLarge {
		t.Error(e1, e2, e3, e4, e5)
	}
}

func TestCutOff(t *testing.T) {
	acts := []api.WorkAct{{Text: module("B", "X == 1")}, {Text: api.WorkText{Name: "A"}}, {Remove: true, Text: api.WorkText{Name: "B"}}}
	whole, _ := JournalOf(acts)
	var ends []int
	for i := range acts {
		s, _ := JournalOf(acts[:i+1])
		ends = append(ends, len(s))
	}
	for cut := range len(whole) + 1 {
		want := 0
		for want < len(ends) && ends[want] <= cut {
			want++
		}
		l, n, err := Recovered(whole[:cut])
		if again, _ := JournalOf(l); len(l) != want || err != api.OK || again != whole[:n] {
			t.Error(cut, len(l), n, err)
		}
	}
}

func TestCompacted(t *testing.T) {
	r := rand.New(rand.NewSource(36))
	for range 200 {
		var acts []api.WorkAct
		var kept []api.WorkAct
		var l []api.WorkText
		for range r.Intn(41) {
			a := api.WorkAct{Remove: r.Intn(3) == 0, Text: api.WorkText{Name: string(rune('A' + r.Intn(11)))}}
			if !a.Remove {
				a.Text.Lines = []string{strconv.Itoa(r.Intn(99))}
			}
			acts = append(acts, a)
			if next, _, err := Applied(l, []api.WorkAct{a}); err == api.OK {
				l = next
				kept = append(kept, a)
			}
		}
		journal, _ := JournalOf(acts)
		short, err := Compacted(journal)
		again, e2 := Compacted(short)
		got, n, _ := Recovered(short)
		project, _, e3 := Applied(nil, got)
		if err != api.OK || e2 != api.OK || e3 != api.OK || again != short || n != len(short) || len(project) != len(l) || len(l) > 0 && !reflect.DeepEqual(project, l) {
			t.Fatal(acts, short, err)
		}
		other, _, _ := Applied(nil, kept)
		if len(l) > 0 && !reflect.DeepEqual(other, l) {
			t.Fatal(other, l)
		}
	}
}

// TestSame changes projects at random, and compares what is taken over with what is checked anew.
func TestSame(t *testing.T) {
	r := rand.New(rand.NewSource(4))
	bodies := []string{"X == 1", "X == 2", "X(a) == a", "LOCAL Z == 3", "Y == X", "W == X + 1", "VARIABLE v", "CONSTANT c", "X == ", "P == v", "THEOREM Th == TRUE", "RECURSIVE X(_)"}
	all := []string{"A", "B", "C", "D", "Naturals"}
	random := func(name string) api.WorkText {
		var lines []string
		if r.Intn(3) > 0 {
			lines = append(lines, "EXTENDS "+all[r.Intn(5)])
		}
		if r.Intn(3) == 0 {
			lines = append(lines, "I == INSTANCE "+all[r.Intn(4)]+" WITH c <- 1, v <- 2")
		}
		if r.Intn(6) == 0 {
			lines = append(lines, "INSTANCE "+all[r.Intn(4)])
		}
		if r.Intn(12) == 0 {
			lines = append(lines, "---- MODULE "+[]string{"In", "C"}[r.Intn(2)]+" ----", "EXTENDS "+all[r.Intn(4)], "====")
		}
		for range r.Intn(3) {
			lines = append(lines, bodies[r.Intn(len(bodies))])
		}
		return module(name, lines...)
	}
	var l []api.WorkText
	var old []api.WorkResult
	taken, errors := 0, map[api.Errno]int{}
	for round := range 4000 {
		a := api.WorkAct{Remove: r.Intn(5) == 0, Text: random(all[r.Intn(4)])}
		if a.Remove {
			a.Text.Lines = nil
		}
		next, _, err := Applied(l, []api.WorkAct{a})
		if err != api.OK {
			continue
		}
		l = next
		got, checked, err := Rechecked(l, old)
		want, _ := ResultsOf(l)
		if err != api.OK || len(got) != len(want) || len(l) > 0 && !reflect.DeepEqual(got, want) {
			t.Fatal(l, got, want, err)
		}
		if _, again, _ := Rechecked(l, got); len(again) > 0 {
			t.Fatal(l, again)
		}
		for i, x := range got {
			errors[x.Error]++
			if x.Checked && !slices.Contains(checked, x.Text.Name) {
				taken++
			}
			if m, _, err := units.ModuleOf(x.Text.Lines); x.Checked && len(x.Uses) == 0 {
				_, e := scope.CheckProgram([]api.Module{m})
				if err != api.OK || e != x.Error {
					t.Fatal(l, i, e)
				}
			}
		}
		old = got
		if round%3 == 0 {
			old = append(got, old...)
		}
		old = old[:min(len(old), 32)]
	}
	t.Log(taken, errors)
}
