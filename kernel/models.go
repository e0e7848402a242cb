package kernel

import (
	"slices"

	"stutter/api"
	"stutter/models"
	"stutter/tree"
	"stutter/words"
)

// CheckModel returns the first fault of a model, and the index of what has it.
func CheckModel(m api.KernelModel) (int, api.Errno) {
	switch {
	case m.Size < 2 || m.Size > api.MaxModelSize:
		return 0, api.ErrRange
	case len(m.Names) > api.MaxItems || len(m.Operators) > api.MaxItems:
		return 0, api.ErrLarge
	case len(m.Values) != len(m.Names) || len(m.Tables) != len(m.Operators) || len(m.Members) != m.Size*m.Size:
		return 0, api.ErrShape
	}
	individual := func(n int) bool { return n >= 0 && n < m.Size }
	for i := range m.Names {
		if err := checkListed(m.Names, i); err != api.OK {
			return i, err
		}
		if !individual(m.Values[i]) {
			return i, api.ErrRange
		}
	}
	for i, l := range m.Tables {
		if err := checkListed(m.Operators, i); err != api.OK {
			return i, err
		}
		if len(l) != m.Size && len(l) != m.Size*m.Size {
			return i, api.ErrShape
		}
		for _, n := range l {
			if !individual(n) {
				return i, api.ErrRange
			}
		}
	}
	for i, n := range m.Members {
		if n != 0 && n != 1 {
			return i, api.ErrRange
		}
	}
	return 0, api.OK
}

func checkListed(names []string, at int) api.Errno {
	if !words.IsName(names[at]) {
		return api.ErrName
	}
	if slices.Contains(names[:at], names[at]) {
		return api.ErrDouble
	}
	return api.OK
}

// ValueIn returns the individual that an expression is in a model.
func ValueIn(m api.KernelModel, e api.Expr) (int, api.Errno) {
	if _, err := CheckModel(m); err != api.OK {
		return 0, err
	}
	if _, err := tree.CheckExpr(e); err != api.OK {
		return 0, err
	}
	return valueIn(m, e)
}

func valueIn(m api.KernelModel, e api.Expr) (int, api.Errno) {
	has := func(operator string, operands int) bool {
		i := slices.Index(m.Operators, operator)
		return i >= 0 && (operands == 1 && len(m.Tables[i]) == m.Size || operands == 2 && len(m.Tables[i]) == m.Size*m.Size)
	}
	if err := models.Fault(e, has); err != api.OK {
		return 0, err
	}
	world := models.World{Size: m.Size, Values: m.Values, Members: m.Members, Tables: m.Tables}
	return models.Compile(e, m.Names, m.Operators).Value(&world), api.OK
}

// HoldsIn says whether a sequent holds in a model.
func HoldsIn(m api.KernelModel, s api.Sequent) (bool, api.Errno) {
	if _, err := CheckModel(m); err != api.OK {
		return false, err
	}
	if _, err := CheckSequent(s); err != api.OK {
		return false, err
	}
	holds := false
	for i, e := range expressions(s) {
		v, err := valueIn(m, e)
		if err != api.OK {
			return false, err
		}
		holds = holds || (v == 1) == (i == len(s.Hyps))
	}
	return holds, api.OK
}
