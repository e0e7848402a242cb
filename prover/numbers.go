package prover

import (
	"slices"

	"stutter/api"
	"stutter/exprs"
	"stutter/linear"
	"stutter/tree"
)

// mostEntry is how great an entry of a row may be, so that products of two, and their sums, stay within 64 bits.
const mostEntry = 1000000000

// row is comparisons, each times a number, added: what is left of each unknown, the number, and how often each comparison is in it.
type row struct {
	unknowns [api.MaxUnknowns]int64
	number   int64
	times    [api.MaxEquations]int64
}

// RefutedBy returns numbers by which comparisons are refuted.
func RefutedBy(l []api.Expr) ([]int, api.Errno) {
	if len(l) == 0 {
		return nil, api.ErrEmpty
	}
	if len(l) > api.MaxEquations {
		return nil, api.ErrLarge
	}
	for _, e := range l {
		if _, err := tree.CheckExpr(e); err != api.OK {
			return nil, err
		}
		if !linear.IsComparison(e) {
			return nil, api.ErrForm
		}
	}
	rows, err := rowsOf(l)
	if err != api.OK {
		return nil, err
	}
	return refuting(l, rows)
}

// rowsOf returns a row for each comparison.
func rowsOf(l []api.Expr) ([]row, api.Errno) {
	written := map[string]bool{}
	for _, e := range l {
		for _, a := range e[len(e)-1].Args {
			if !linear.Written(exprs.Part(e, a), written) {
				return nil, api.ErrLarge
			}
		}
	}
	if len(written) > api.MaxUnknowns {
		return nil, api.ErrLarge
	}
	var names []string
	for s := range written {
		names = append(names, s)
	}
	slices.Sort(names)
	var rows []row
	for i, e := range l {
		f, right := linear.Compared(e)
		if !right {
			return nil, api.ErrLarge
		}
		r := row{number: f.Number}
		for j, s := range names {
			r.unknowns[j] = f.Unknowns[s]
		}
		r.times[i] = 1
		rows = append(rows, r)
	}
	return rows, api.OK
}

// refuting looks through all choices of comparisons no one of which can be left out; if there is a refutation at all, one of these is (up to what is too great).
func refuting(l []api.Expr, rows []row) ([]int, api.Errno) {
	sure := true
	for choice := 1; choice < 1<<len(l); choice++ {
		var chosen []row
		for i, r := range rows {
			if choice>>i&1 == 1 {
				chosen = append(chosen, r)
			}
		}
		if len(chosen) > api.MaxUnknowns+1 {
			continue
		}
		sum, left, within := eliminated(chosen)
		switch {
		case !within:
			sure = false
		case left == 1 && sum.refutes(l):
			numbers := sum.numbers(len(l))
			if numbers != nil && linear.Follows(l, numbers, exprs.Name("FALSE")) {
				return numbers, api.OK
			}
			sure = false
		}
	}
	if !sure {
		return nil, api.ErrFuel
	}
	return nil, api.ErrNone
}

// eliminated returns a sum of rows without unknowns, and how many such sums there are that do not depend on each other.
func eliminated(l []row) (row, int, bool) {
	for u := range api.MaxUnknowns {
		at := slices.IndexFunc(l, func(r row) bool { return r.unknowns[u] != 0 })
		if at < 0 {
			continue
		}
		by := l[at]
		l = slices.Delete(slices.Clone(l), at, at+1)
		for i := range l {
			var within bool
			if l[i], within = l[i].without(by, u); !within {
				return row{}, 0, false
			}
		}
	}
	if len(l) == 0 {
		return row{}, 0, true
	}
	return l[0], len(l), true
}

// without returns a sum of the row and of another one in which an unknown is not left, with the least numbers.
func (r row) without(by row, unknown int) (row, bool) {
	p, q := by.unknowns[unknown], r.unknowns[unknown]
	common, within := int64(0), true
	mix := func(a, b int64) int64 {
		c := p*a - q*b
		common = divisor(common, c)
		return c
	}
	var out row
	for i := range out.unknowns {
		out.unknowns[i] = mix(r.unknowns[i], by.unknowns[i])
	}
	out.number = mix(r.number, by.number)
	for i := range out.times {
		out.times[i] = mix(r.times[i], by.times[i])
	}
	reduce := func(n *int64) {
		*n /= max(common, 1)
		within = within && -mostEntry <= *n && *n <= mostEntry
	}
	for i := range out.unknowns {
		reduce(&out.unknowns[i])
	}
	reduce(&out.number)
	for i := range out.times {
		reduce(&out.times[i])
	}
	return out, within
}

// divisor returns the greatest number that divides both.
func divisor(a, b int64) int64 {
	for b != 0 {
		a, b = b, a%b
	}
	return max(a, -a)
}

// refutes says whether the row, or its contrary, says that a number below 0 is at least 0, with numbers that the comparisons permit.
func (r *row) refutes(l []api.Expr) bool {
	if r.number > 0 {
		r.number = -r.number
		for i := range r.times {
			r.times[i] = -r.times[i]
		}
	}
	for i, e := range l {
		if r.times[i] < 0 && !linear.IsEquation(e) {
			return false
		}
	}
	return r.number < 0
}

// numbers returns how often each comparison is in the row, unless one is there too often; a common factor is not needed.
func (r *row) numbers(n int) []int {
	common := int64(0)
	for _, t := range r.times {
		common = divisor(common, t)
	}
	var out []int
	for _, t := range r.times[:n] {
		t /= max(common, 1)
		if t < -api.MaxNumber || t > api.MaxNumber {
			return nil
		}
		out = append(out, int(t))
	}
	return out
}
