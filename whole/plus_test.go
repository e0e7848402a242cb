package whole

import (
	"fmt"
	"strings"
	"testing"

	"stutter/action"
	"stutter/api"
	"stutter/pluscal"
	"stutter/process"
	"stutter/translate"
	"stutter/value"
)

// plus makes algorithms; labels are those of the part that is made.
type plus struct {
	*maker
	count  int
	labels []string
	vars   []string
	calls  bool
}

func (p *plus) number() string { return p.pick(append([]string{"0", "1", "2"}, p.vars...)...) }

func (p *plus) condition() string {
	return p.number() + p.pick(" < ", " = ", " # ", " >= ") + p.number()
}

func (p *plus) label() string {
	p.count++
	s := fmt.Sprintf("L%d", p.count)
	p.labels = append(p.labels, s)
	return s + ": "
}

// simple makes a statement without labels that may assign some variables.
func (p *plus) simple(depth int, free []string) string {
	switch kind := p.Intn(9); {
	case kind == 0:
		return "await " + p.condition() + ";"
	case kind < 4 && len(free) > 0:
		return free[0] + " := (" + p.number() + " + 1) % 4;"
	case kind == 4 && len(free) > 1:
		return free[0] + " := " + p.number() + " % 3 || " + free[1] + " := " + p.number() + " % 4;"
	case kind == 5 && depth > 0:
		return "if " + p.condition() + " then " + p.simple(depth-1, free) + " else " + p.simple(depth-1, free) + " end if;"
	case kind == 6 && depth > 0:
		return "either " + p.simple(depth-1, free) + " or " + p.simple(depth-1, free) + " end either;"
	case kind == 7 && depth > 0:
		p.vars = append(p.vars, "w")
		s := p.simple(depth-1, free)
		p.vars = p.vars[:len(p.vars)-1]
		return "with w \\in {0, 1} do " + s + " end with;"
	case kind == 8:
		return "assert x < 9;"
	}
	return "skip;"
}

// body makes statements with labels; @ stands for one of them.
func (p *plus) body(n int, own []string) []string {
	var out []string
	p.labels = nil
	for range n {
		s := p.label()
		switch kind := p.Intn(8); {
		case kind == 0:
			out = append(out, s+"while "+p.condition()+" do", p.simple(1, own), "end while;")
		case kind == 1 && p.calls:
			out = append(out, s+"call Pr("+p.number()+");")
		case kind == 2:
			out = append(out, s+"goto @;")
		case kind == 3:
			out = append(out, s+"if "+p.condition()+" then", p.label()+p.simple(1, own), "end if;")
		default:
			out = append(out, s+p.simple(2, own), p.simple(1, own[1:]))
		}
	}
	for i := range out {
		out[i] = strings.ReplaceAll(out[i], "@", p.pick(p.labels...))
	}
	return out
}

func (p *plus) text() []string {
	out := []string{"--algorithm T", "variables x = 0, y \\in {0, 1};"}
	p.count, p.calls = 0, p.Intn(3) == 0
	if p.calls {
		p.vars = []string{"x", "y", "a", "b"}
		out = append(out, "procedure Pr(a)", "variables b = 1;", "begin")
		out = append(out, p.body(1+p.Intn(2), []string{"b", "x"})...)
		out = append(out, p.label()+"return;", "end procedure;")
	}
	if p.Intn(2) == 0 {
		p.vars = []string{"x", "y"}
		out = append(out, "begin")
		out = append(out, p.body(1+p.Intn(3), p.vars)...)
		return append(out, "end algorithm")
	}
	for i := range 1 + p.Intn(2) {
		z := fmt.Sprintf("z%d", i)
		p.vars = []string{"x", "y", z, "self"}
		out = append(out, p.pick("", "fair ", "fair strong ")+fmt.Sprintf("process P%d ", i)+p.pick([]string{"= 3", "= 7"}[i], []string{"\\in {1, 2}", "\\in {5}"}[i]))
		out = append(out, "variables "+z+p.pick(" = 0;", " = self;", " \\in {0, 1};"), "begin")
		out = append(out, p.body(1+p.Intn(2), []string{z, "x"})...)
		out = append(out, "end process;")
	}
	return append(out, "end algorithm")
}

func stateText(s api.State) string {
	var out strings.Builder
	for _, v := range s {
		x, _ := value.FormatValue(v)
		out.WriteString(x + "; ")
	}
	return out.String()
}

// TestAlgorithms reads algorithms as they are printed, and compares their steps with those of their specifications.
func TestAlgorithms(t *testing.T) {
	p := &plus{maker: newMaker(27)}
	for made := 0; made < 120; {
		lines := p.text()
		a, _, err := pluscal.ParseAlgorithm(lines)
		if err != api.OK {
			continue
		}
		made++
		for _, format := range []func(api.Algorithm) ([]string, api.Errno){pluscal.FormatLong, pluscal.FormatShort} {
			printed, err := format(a)
			if err != api.OK {
				t.Fatal(lines, err)
			}
			if b, at, err := pluscal.ParseAlgorithm(printed); err != api.OK || fmt.Sprint(a) != fmt.Sprint(b) {
				t.Fatal(strings.Join(printed, "\n"), at, err)
			}
		}
		program := api.PlusProgram{Algorithm: a}
		s, err := translate.SpecOf(program)
		if err != api.OK {
			continue
		}
		compareSteps(t, strings.Join(lines, "\n"), program, s)
	}
}

// compareSteps goes through states of a program.
func compareSteps(t *testing.T, lines string, program api.PlusProgram, s api.Spec) {
	t.Helper()
	todo, err := process.FirstStates(program)
	first, _, wrong := action.FirstStates(s)
	if err != api.OK || wrong != api.OK || len(first) != len(todo) {
		t.Fatal(lines, err, wrong)
	}
	actions, err := translate.ActionsOf(program)
	if err != api.OK {
		t.Fatal(lines, err)
	}
	seen := map[string]bool{}
	for ; len(todo) > 0 && len(seen) < 25; todo = todo[1:] {
		x := todo[0]
		steps, err := process.StepsFrom(program, x)
		if seen[stateText(x)] || err != api.OK {
			continue
		}
		seen[stateText(x)] = true
		if n, err := translate.CheckStates(program, s, []api.State{x}); n != 1 || err != api.OK {
			t.Fatal(lines, stateText(x), n, err)
		}
		by := map[string]map[string]bool{}
		for _, step := range steps {
			if by[step.Label] == nil {
				by[step.Label] = map[string]bool{}
			}
			by[step.Label][stateText(step.To)] = true
			todo = append(todo, step.To)
		}
		for _, a := range actions {
			got, _, err := action.Successors(s, x, a.Action)
			if err != api.OK || len(got) != len(by[a.Label]) {
				t.Fatal(lines, stateText(x), a.Label, len(got), err)
			}
			for _, to := range got {
				if !by[a.Label][stateText(to)] {
					t.Fatal(lines, stateText(x), a.Label, stateText(to))
				}
			}
		}
	}
}
