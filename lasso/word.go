package lasso

import (
	"slices"

	"stutter/api"
)

// CheckWord says whether letters are a word.
func CheckWord(w api.Word) api.Errno {
	if len(w.Loop) == 0 {
		return api.ErrEmpty
	}
	if len(w.Prefix)+len(w.Loop) > api.MaxWordLetters {
		return api.ErrLarge
	}
	for _, c := range slices.Concat(w.Prefix, w.Loop) {
		if c < 0 || c > maxLetter {
			return api.ErrRange
		}
	}
	return api.OK
}

// checkBoth is the error of a formula, then of a word.
func checkBoth(f api.Formula, w api.Word) api.Errno {
	if _, err := CheckFormula(f); err != api.OK {
		return err
	}
	return CheckWord(w)
}

// truthsOn says for each place of a valid word whether a valid formula holds there.
func truthsOn(f api.Formula, w api.Word) []bool {
	letters := slices.Concat(w.Prefix, w.Loop)
	truths := make([][]bool, len(f))
	for i, n := range f {
		truths[i] = make([]bool, len(letters))
		operand := func(k int) []bool { return truths[n.Args[k]] }
		if n.Kind == api.FormulaUntil {
			until(truths[i], operand(0), operand(1), len(w.Prefix))
			continue
		}
		for at, letter := range letters {
			from := min(at, len(w.Prefix)) // of a place in the loop all of the loop is later
			switch n.Kind {
			case api.FormulaTrue:
				truths[i][at] = true
			case api.FormulaAtom:
				truths[i][at] = letter>>n.N&1 == 1
			case api.FormulaNot:
				truths[i][at] = !operand(0)[at]
			case api.FormulaAnd:
				truths[i][at] = operand(0)[at] && operand(1)[at]
			case api.FormulaOr:
				truths[i][at] = operand(0)[at] || operand(1)[at]
			case api.FormulaImplies:
				truths[i][at] = !operand(0)[at] || operand(1)[at]
			case api.FormulaAlways:
				truths[i][at] = !slices.Contains(operand(0)[from:], false)
			case api.FormulaSometime:
				truths[i][at] = slices.Contains(operand(0)[from:], true)
			case api.FormulaLeads:
				truths[i][at] = leads(operand(0), operand(1), from, len(w.Prefix))
			}
		}
	}
	return truths[len(f)-1]
}

// leads says whether each place from one on at which the first holds is followed by one at which the second does.
func leads(a, b []bool, from, prefix int) bool {
	for at := from; at < len(a); at++ {
		if a[at] && !slices.Contains(b[min(at, prefix):], true) {
			return false
		}
	}
	return true
}

// until finds where the second holds at last, and the first before it; twice round the loop is enough.
func until(out, a, b []bool, prefix int) {
	for range 2 {
		for at := range slices.Backward(out) {
			next := at + 1
			if next == len(out) {
				next = prefix
			}
			out[at] = b[at] || a[at] && out[next]
		}
	}
}

// TruthsOn returns for each place of a word whether a formula holds there.
func TruthsOn(f api.Formula, w api.Word) ([]bool, api.Errno) {
	if err := checkBoth(f, w); err != api.OK {
		return nil, err
	}
	return truthsOn(f, w), api.OK
}

// HoldsOn says whether a formula holds on a word.
func HoldsOn(f api.Formula, w api.Word) (bool, api.Errno) {
	if err := checkBoth(f, w); err != api.OK {
		return false, err
	}
	return truthsOn(f, w)[0], api.OK
}

// shortest is the shortest form of a word.
func shortest(w api.Word) api.Word {
	prefix, loop := slices.Clone(w.Prefix), slices.Clone(w.Loop)
	for n := 1; n < len(loop); n++ {
		if len(loop)%n == 0 && slices.Equal(slices.Repeat(loop[:n], len(loop)/n), loop) {
			loop = loop[:n]
		}
	}
	for len(prefix) > 0 && prefix[len(prefix)-1] == loop[len(loop)-1] {
		last := len(loop) - 1
		loop = slices.Concat(loop[last:], loop[:last])
		prefix = prefix[:len(prefix)-1]
	}
	return api.Word{Prefix: prefix, Loop: slices.Clone(loop)}
}

// Shortest returns the same infinite word with the shortest loop, and then the shortest prefix.
func Shortest(w api.Word) (api.Word, api.Errno) {
	if err := CheckWord(w); err != api.OK {
		return api.Word{}, err
	}
	return shortest(w), api.OK
}

// Unstuttered returns a word in which no letter is the one before it.
func Unstuttered(w api.Word) (api.Word, api.Errno) {
	if err := CheckWord(w); err != api.OK {
		return api.Word{}, err
	}
	prefix := slices.Compact(slices.Concat(w.Prefix, w.Loop))
	var loop []int
	before := w.Loop[len(w.Loop)-1]
	for _, c := range w.Loop {
		if c != before {
			loop = append(loop, c)
		}
		before = c
	}
	if len(loop) == 0 {
		loop = []int{before}
	}
	return shortest(api.Word{Prefix: prefix, Loop: loop}), api.OK
}
