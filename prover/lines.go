package prover

import (
	"slices"
	"strconv"

	"stutter/alike"
	"stutter/api"
	"stutter/exprs"
)

// pool numbers expressions, alike ones once.
type pool struct {
	exprs []api.Expr
	known map[string]int
	fits  []bool
}

// of returns the number of an expression. One that is too large gets a number, too, but no step may say it.
func (p *pool) of(e api.Expr) int {
	key := alike.Key(e)
	if n, is := p.known[key]; is && key != "" {
		return n
	}
	p.known[key] = len(p.exprs)
	p.exprs, p.fits = append(p.exprs, e), append(p.fits, key != "")
	return len(p.exprs) - 1
}

func (p *pool) apply(operator string, ids ...int) int {
	var l []api.Expr
	for _, id := range ids {
		l = append(l, p.exprs[id])
	}
	return p.of(exprs.Apply(operator, l...))
}

func (p *pool) word(s string) int { return p.of(exprs.Name(s)) }

// line is a step of a derivation, its expressions being numbers, and its hypotheses only those that it needs.
type line struct {
	rule, goal int
	hyps, from []int
	name       string
	term       api.Expr
	numbers    []int
}

// builder writes lines, each sequent once.
type builder struct {
	pool
	lines []line
	said  map[string]int
}

func newBuilder() *builder {
	return &builder{pool: pool{known: map[string]int{}}, said: map[string]int{}}
}

// put adds a line; its hypotheses are those of its premises, of each without one that the rule takes away, and those that it has.
func (b *builder) put(l line, without ...int) int {
	for i, f := range l.from {
		for _, h := range b.lines[f].hyps {
			if i >= len(without) || without[i] != h {
				l.hyps = append(l.hyps, h)
			}
		}
	}
	slices.Sort(l.hyps)
	l.hyps = slices.Compact(l.hyps)
	key := strconv.Itoa(l.goal)
	for _, h := range l.hyps {
		key += " " + strconv.Itoa(h)
	}
	if at, is := b.said[key]; is {
		return at
	}
	b.said[key] = len(b.lines)
	b.lines = append(b.lines, l)
	return len(b.lines) - 1
}

func (b *builder) add(rule, goal int, from ...int) int {
	return b.put(line{rule: rule, goal: goal, from: from})
}

func (b *builder) hyp(id int) int {
	return b.put(line{rule: api.RuleHyp, goal: id, hyps: []int{id}})
}

func (b *builder) needs(at, id int) bool { return slices.Contains(b.lines[at].hyps, id) }

// emitted returns the steps that a line needs, or nothing if there are too many, or a sequent is too large.
func (b *builder) emitted(last int) []api.KernelStep {
	needed := make([]bool, last+1)
	needed[last] = true
	places := make([]int, last+1)
	for i := last; i >= 0; i-- {
		for _, f := range b.lines[i].from {
			needed[f] = needed[f] || needed[i]
		}
	}
	var out []api.KernelStep
	for i, l := range b.lines[:last+1] {
		if !needed[i] {
			continue
		}
		if len(l.hyps) > api.MaxHyps || !b.fits[l.goal] || len(out) == api.MaxKernelSteps {
			return nil
		}
		s := api.KernelStep{Rule: l.rule, Name: l.name, Term: exprs.Clone(l.term), Numbers: slices.Clone(l.numbers)}
		s.Sequent.Goal = exprs.Clone(b.exprs[l.goal])
		for _, h := range l.hyps {
			if !b.fits[h] {
				return nil
			}
			s.Sequent.Hyps = append(s.Sequent.Hyps, exprs.Clone(b.exprs[h]))
		}
		for _, f := range l.from {
			s.From = append(s.From, places[f])
		}
		places[i] = len(out)
		out = append(out, s)
	}
	return out
}
