package arena

import (
	"slices"

	"stutter/api"
	"stutter/solver"
)

// BitsOf returns the bits of states at the moments from 0 on.
func BitsOf(x api.ArenaSpec, trace []api.State) ([]int, api.Errno) {
	a, _, err := built(x)
	if err != api.OK {
		return nil, err
	}
	if len(trace) > api.MaxArenaDepth+1 {
		return nil, api.ErrLarge
	}
	var res []int
	for t, at := range trace {
		i := a.number(at)
		if i == api.None {
			return nil, api.ErrMissing
		}
		own := a.bits(i, t)
		for b := range a.width {
			n := 1 + t*a.width + b
			if !slices.Contains(own, n) {
				n = -n
			}
			res = append(res, n)
		}
	}
	return res, api.OK
}

// bits returns the variables of the values of a state at a moment, ascending.
func (a *arena) bits(i, moment int) []int {
	res := make([]int, len(a.domains))
	for v, l := range slices.Backward(a.domains) {
		res[v] = 1 + moment*a.width + a.starts[v] + i%len(l)
		i /= len(l)
	}
	return res
}

// FormulaOf returns a right formula: behind the bits it has a variable for each state at each moment.
func FormulaOf(x api.ArenaSpec, depth int) (api.Clauses, api.Errno) {
	a, _, err := built(x)
	if err != api.OK {
		return api.Clauses{}, err
	}
	if err := depthError(depth); err != api.OK {
		return api.Clauses{}, err
	}
	return a.formula(depth), api.OK
}

func (a *arena) formula(depth int) api.Clauses {
	count := len(a.states)
	f := api.Clauses{Vars: (depth + 1) * (a.width + count)}
	at := func(moment, i int) int { return 1 + (depth+1)*a.width + moment*count + i }
	for t := range depth + 1 {
		f.Lists = append(f.Lists, a.oneValue(t)...)
		for i := range count {
			f.Lists = append(f.Lists, meaning(a.bits(i, t), at(t, i))...)
		}
	}
	for i := range count {
		if !slices.Contains(a.first, i) {
			f.Lists = append(f.Lists, []int{-at(0, i)})
		}
	}
	for t := range depth {
		for i, l := range a.next {
			c := []int{-at(t, i)}
			for _, k := range l {
				c = append(c, at(t+1, k))
			}
			f.Lists = append(f.Lists, c)
		}
	}
	return f
}

// oneValue says that each variable has exactly one value at a moment.
func (a *arena) oneValue(moment int) [][]int {
	var res [][]int
	for v, l := range a.domains {
		var some []int
		for k := range l {
			n := 1 + moment*a.width + a.starts[v] + k
			for _, m := range some {
				res = append(res, []int{-m, -n})
			}
			some = append(some, n)
		}
		res = append(res, some)
	}
	return res
}

// meaning says that a state's variable is true if and only if all of its bits are.
func meaning(bits []int, state int) [][]int {
	var res [][]int
	for _, b := range bits {
		res = append(res, []int{b, -state})
	}
	return append(res, append(negated(bits), state))
}

func negated(l []int) []int {
	var res []int
	for _, n := range l {
		res = append(res, -n)
	}
	return res
}

// Decoded returns the states that a model has at the moments up to a depth.
func Decoded(x api.ArenaSpec, depth int, model []bool) ([]api.State, api.Errno) {
	a, _, err := built(x)
	if err != api.OK {
		return nil, err
	}
	if err := depthError(depth); err != api.OK {
		return nil, err
	}
	if len(model) < (depth+1)*a.width {
		return nil, api.ErrShape
	}
	return a.decoded(depth, model)
}

func (a *arena) decoded(depth int, model []bool) ([]api.State, api.Errno) {
	var res []api.State
	for t := range depth + 1 {
		bits := model[t*a.width : (t+1)*a.width]
		x := api.State{}
		for v, l := range a.domains {
			own := bits[a.starts[v] : a.starts[v]+len(l)]
			k := slices.Index(own, true)
			if k < 0 || slices.Contains(own[k+1:], true) {
				return nil, api.ErrForm
			}
			x = append(x, l[k])
		}
		res = append(res, x)
	}
	return a.copies(res), api.OK
}

// Blocked returns the blocking clauses of an invariant at a depth.
func Blocked(x api.ArenaSpec, invariant api.Expr, depth int) ([][]int, api.Errno) {
	a, holds, err := withInvariant(x, invariant)
	if err != api.OK {
		return nil, err
	}
	if err := depthError(depth); err != api.OK {
		return nil, err
	}
	return a.blocked(holds, depth), api.OK
}

func (a *arena) blocked(holds []bool, depth int) [][]int {
	var res [][]int
	for i, is := range holds {
		if is {
			res = append(res, negated(a.bits(i, depth)))
		}
	}
	return res
}

// question asks for an execution whose last state breaks an invariant.
func (a *arena) question(holds []bool, depth int) api.Clauses {
	f := a.formula(depth)
	f.Lists = append(f.Lists, a.blocked(holds, depth)...)
	return f
}

// Bounded returns a shortest trace to a state that breaks an invariant, or a refutation for each depth.
func Bounded(x api.ArenaSpec, invariant api.Expr, depth int) (api.ArenaAnswer, api.Errno) {
	a, holds, err := withInvariant(x, invariant)
	if err != api.OK {
		return api.ArenaAnswer{}, err
	}
	if err := depthError(depth); err != api.OK {
		return api.ArenaAnswer{}, err
	}
	var refutations [][][]int
	for d := range depth + 1 {
		v, err := solver.Solve(a.question(holds, d))
		if err != api.OK {
			return api.ArenaAnswer{}, err
		}
		if !v.Refuted {
			trace, err := a.decoded(d, v.Model)
			return api.ArenaAnswer{Trace: trace}, err
		}
		refutations = append(refutations, v.Learned)
	}
	return api.ArenaAnswer{Refutations: refutations}, api.OK
}

// CheckBounded accepts traces that break an invariant, and refutations for all depths.
func CheckBounded(x api.ArenaSpec, invariant api.Expr, depth int, answer api.ArenaAnswer) (int, api.Errno) {
	a, holds, err := withInvariant(x, invariant)
	if err != api.OK {
		return 0, err
	}
	if err := depthError(depth); err != api.OK {
		return 0, err
	}
	if len(answer.Trace) > 0 && len(answer.Refutations) > 0 {
		return 0, api.ErrForm
	}
	if len(answer.Trace) > 0 {
		return a.checkTrace(holds, depth, answer.Trace)
	}
	if len(answer.Refutations) != depth+1 {
		return 0, api.ErrShape
	}
	for d, l := range answer.Refutations {
		if _, err := solver.CheckVerdict(a.question(holds, d), api.Verdict{Refuted: true, Learned: l}); err != api.OK {
			return d, err
		}
	}
	return 0, api.OK
}

func (a *arena) checkTrace(holds []bool, depth int, trace []api.State) (int, api.Errno) {
	if len(trace) > depth+1 {
		return 0, api.ErrLarge
	}
	var numbers []int
	for i, x := range trace {
		n := a.number(x)
		if n == api.None {
			return i, api.ErrMissing
		}
		numbers = append(numbers, n)
	}
	if !slices.Contains(a.first, numbers[0]) {
		return 0, api.ErrProof
	}
	last := len(numbers) - 1
	for i := range last {
		if !slices.Contains(a.next[numbers[i]], numbers[i+1]) {
			return i + 1, api.ErrProof
		}
	}
	if holds[numbers[last]] {
		return last, api.ErrProof
	}
	return 0, api.OK
}
