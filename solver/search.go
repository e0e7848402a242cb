package solver

import (
	"slices"

	"stutter/api"
)

// plainAfter is how many clauses a search learns by analysis if its formula is small: from then on it learns the decisions alone, of which 2^SureSolverVars are enough.
const plainAfter = 3000

// search decides a formula by decisions, and learns a clause of every conflict.
type search struct {
	*engine
	vars    int
	learned [][]int
	scores  []int // of each variable: how much it had to do with conflicts
	bump    int
}

// decided returns a model or a refutation, and takes a unit of fuel for each clause that it learns; formulas of more than SureSolverVars variables may need too much.
func decided(vars int, lists [][]int, fuel *int) (api.Verdict, api.Errno) {
	s := &search{engine: started(vars, lists), vars: vars, scores: make([]int, vars+1), bump: 1}
	s.weigh(lists)
	for !s.broken {
		conflict := s.propagate()
		if conflict == noClause {
			v := s.next()
			if v == 0 {
				return api.Verdict{Model: s.model()}, api.OK
			}
			s.decide(-v)
			continue
		}
		if len(s.limits) == 0 {
			break
		}
		*fuel--
		isOut := *fuel < 0 && vars > api.SureSolverVars
		if isOut || len(s.learned) == api.MaxLearned-1 || !s.learn(conflict) {
			return api.Verdict{}, api.ErrFuel
		}
	}
	return api.Verdict{Refuted: true, Learned: append(s.learned, []int{})}, api.OK
}

// weigh lets the search begin with the variables that stand in many clauses.
func (s *search) weigh(lists [][]int) {
	for _, c := range lists {
		for _, n := range c {
			s.scores[variable(n)]++
		}
	}
}

// next returns the variable with the highest score that is not known, or 0.
func (s *search) next() int {
	best := 0
	for v := 1; v <= s.vars; v++ {
		if s.value[v] == 0 && (best == 0 || s.scores[v] > s.scores[best]) {
			best = v
		}
	}
	return best
}

func (s *search) model() []bool {
	res := make([]bool, s.vars)
	for v := range res {
		res[v] = s.value[v+1] > 0
	}
	return res
}

// learn adds a clause that excludes a conflict, and goes back so far that one of its literals is left; it reports false if the clause would be too long.
func (s *search) learn(conflict int) bool {
	c := s.analysed(conflict)
	if len(c) > api.MaxClause || s.vars <= api.SureSolverVars && len(s.learned) >= plainAfter {
		c = s.decisions()
	}
	if len(c) > api.MaxClause {
		return false
	}
	s.learned = append(s.learned, sorted(slices.Clone(c)))
	s.age()
	if len(c) == 1 {
		s.back(0)
		s.know(c[0], noClause)
		return true
	}
	s.back(s.level[variable(c[1])])
	s.know(c[0], s.watch(c))
	return true
}

// age makes later conflicts count more.
func (s *search) age() {
	if len(s.learned)%32 != 0 {
		return
	}
	s.bump *= 2
	if s.bump < 1<<20 {
		return
	}
	s.bump = 1
	for v := range s.scores {
		s.scores[v] >>= 20
	}
}

// decisions returns the clause that excludes all decisions, the last one first.
func (s *search) decisions() []int {
	var c []int
	for _, at := range slices.Backward(s.limits) {
		c = append(c, -s.trail[at])
	}
	return c
}

// analysed resolves a conflict with reasons, from the end of the trail, until one literal of the last decision's level is left; this one stands first, and one of the highest other level second.
func (s *search) analysed(conflict int) []int {
	seen := make([]bool, s.vars+1)
	res := []int{0}
	open := 0
	take := func(c []int) {
		for _, n := range c {
			v := variable(n)
			if seen[v] || s.level[v] == 0 {
				continue
			}
			seen[v] = true
			s.scores[v] += s.bump
			if s.level[v] == len(s.limits) {
				open++
			} else {
				res = append(res, n)
			}
		}
	}
	take(s.clauses[conflict])
	for _, n := range slices.Backward(s.trail) {
		v := variable(n)
		if !seen[v] {
			continue
		}
		open--
		if open == 0 {
			res[0] = -n
			break
		}
		take(s.clauses[s.reason[v]])
	}
	s.raise(res)
	return res
}

// raise puts a literal of the highest level second.
func (s *search) raise(c []int) {
	for i := 2; i < len(c); i++ {
		if s.level[variable(c[i])] > s.level[variable(c[1])] {
			c[1], c[i] = c[i], c[1]
		}
	}
}
