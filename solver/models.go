package solver

import "stutter/api"

// CoreOf returns the core that remains if clauses are left out from the last one on.
func CoreOf(f api.Clauses) ([]int, api.Errno) {
	if err := smallError(f, api.SureSolverVars); err != api.OK {
		return nil, err
	}
	broken := brokenIn(f)
	if first(broken) < len(broken) {
		return nil, api.ErrNone
	}
	kept := make([]bool, len(f.Lists))
	for i := len(f.Lists) - 1; i >= 0; i-- {
		for m := range against(f.Lists[i], f.Vars) {
			kept[i] = kept[i] || broken[m] == 1
		}
		if kept[i] {
			continue
		}
		for m := range against(f.Lists[i], f.Vars) {
			broken[m]--
		}
	}
	var res []int
	for i, is := range kept {
		if is {
			res = append(res, i)
		}
	}
	return res, api.OK
}

// LeastModel returns the first model that satisfies a formula.
func LeastModel(f api.Clauses) ([]bool, api.Errno) {
	if err := smallError(f, api.SureSolverVars); err != api.OK {
		return nil, err
	}
	broken := brokenIn(f)
	m := first(broken)
	if m == len(broken) {
		return nil, api.ErrNone
	}
	res := make([]bool, f.Vars)
	for v := range res {
		res[v] = m&bitOf(v+1, f.Vars) != 0
	}
	return res, api.OK
}

// CountOf returns how many models satisfy a formula.
func CountOf(f api.Clauses) (int, api.Errno) {
	if err := smallError(f, api.MaxCounted); err != api.OK {
		return 0, err
	}
	n := 0
	for _, b := range brokenIn(f) {
		if b == 0 {
			n++
		}
	}
	return n, api.OK
}

func smallError(f api.Clauses, most int) api.Errno {
	if err := formulaError(f); err != api.OK {
		return err
	}
	if f.Vars > most {
		return api.ErrLarge
	}
	return api.OK
}

// bitOf returns the bit of a variable in the number of a model: the first variable has the highest one, so that the numbers have the order of the models.
func bitOf(v, vars int) int { return 1 << (vars - v) }

// brokenIn returns how many clauses each model breaks.
func brokenIn(f api.Clauses) []int {
	res := make([]int, 1<<f.Vars)
	for _, c := range f.Lists {
		for m := range against(c, f.Vars) {
			res[m]++
		}
	}
	return res
}

func first(broken []int) int {
	for m, b := range broken {
		if b == 0 {
			return m
		}
	}
	return len(broken)
}

// against lists the models in which a clause does not hold: its variables are fixed, the others are free.
func against(c []int, vars int) func(func(int) bool) {
	fixed, free := 0, 1<<vars-1
	for _, n := range c {
		bit := bitOf(variable(n), vars)
		free &^= bit
		if n < 0 {
			fixed |= bit
		}
	}
	return func(yield func(int) bool) {
		for some := free; yield(fixed | some); some = (some - 1) & free {
			if some == 0 {
				return
			}
		}
	}
}
