// Package linear reads expressions as linear forms over unknowns, and adds them within limits.
package linear

import (
	"stutter/alike"
	"stutter/api"
)

const most = 1000000000

// Form is a sum of unknowns (by their keys), each with a coefficient that is not 0, and of a number.
type Form struct {
	Unknowns map[string]int64
	Number   int64
}

func number(n int64) Form { return Form{Number: n} }

func within(n int64) bool { return -most <= n && n <= most }

// Plus returns the form plus some times another one, and whether all of it is within the limits.
func (f Form) Plus(times int64, g Form) (Form, bool) {
	out := Form{Unknowns: map[string]int64{}, Number: f.Number + times*g.Number}
	for u, n := range f.Unknowns {
		out.Unknowns[u] = n
	}
	right := within(out.Number)
	for u, n := range g.Unknowns {
		sum := out.Unknowns[u] + times*n
		right = right && within(sum)
		if sum == 0 {
			delete(out.Unknowns, u)
		} else {
			out.Unknowns[u] = sum
		}
	}
	return out, right
}

// IsNumber says whether no unknown is left.
func (f Form) IsNumber() bool { return len(f.Unknowns) == 0 }

// arithmetic returns the operands of a node that forms look into.
func arithmetic(e api.Expr) (string, []api.Expr) {
	for _, operator := range []string{"+", "-", "-.", "*"} {
		if l, is := alike.Parts(e, operator); is {
			return operator, l
		}
	}
	return "", nil
}

// Of returns the form of an expression, and whether all on the way is within the limits.
func Of(e api.Expr) (Form, bool) {
	root := e[len(e)-1]
	if root.Kind == api.ExprNumber {
		return number(int64(root.N)), true
	}
	operator, l := arithmetic(e)
	if operator == "" {
		return unknown(e), true
	}
	a, right := Of(l[0])
	if !right {
		return Form{}, false
	}
	if operator == "-." {
		return number(0).Plus(-1, a)
	}
	b, right := Of(l[1])
	if !right {
		return Form{}, false
	}
	switch {
	case operator == "+":
		return a.Plus(1, b)
	case operator == "-":
		return a.Plus(-1, b)
	case a.IsNumber():
		return number(0).Plus(a.Number, b)
	case b.IsNumber():
		return number(0).Plus(b.Number, a)
	}
	return unknown(e), true
}

func unknown(e api.Expr) Form { return Form{Unknowns: map[string]int64{alike.Key(e): 1}} }

// Written adds the unknowns of an expression as it is written, and says whether all on the way is within the limits.
func Written(e api.Expr, into map[string]bool) bool {
	operator, l := arithmetic(e)
	if operator == "*" {
		a, right := Of(l[0])
		b, too := Of(l[1])
		switch {
		case !right || !too:
			return false
		case a.IsNumber():
			l = l[1:]
		case b.IsNumber():
			l = l[:1]
		default:
			operator = ""
		}
	}
	if operator == "" {
		if e[len(e)-1].Kind != api.ExprNumber {
			into[alike.Key(e)] = true
		}
		return true
	}
	for _, part := range l {
		if !Written(part, into) {
			return false
		}
	}
	return true
}

// IsComparison says whether an expression is one of the five comparisons.
func IsComparison(e api.Expr) bool {
	_, _, is := sides(e)
	return is
}

// IsEquation says whether an expression is an equation.
func IsEquation(e api.Expr) bool {
	_, is := alike.Parts(e, "=")
	return is
}

// sides returns what a comparison says to be the lesser and the greater side (of an equation: the right and the left one), and its operator with only = < <= left.
func sides(e api.Expr) (string, [2]api.Expr, bool) {
	for _, operator := range []string{"=", "<", "<=", ">", ">="} {
		l, is := alike.Parts(e, operator)
		switch {
		case !is:
		case operator == "<" || operator == "<=":
			return operator, [2]api.Expr{l[0], l[1]}, true
		case operator == "=":
			return operator, [2]api.Expr{l[1], l[0]}, true
		case operator == ">":
			return "<", [2]api.Expr{l[1], l[0]}, true
		default:
			return "<=", [2]api.Expr{l[1], l[0]}, true
		}
	}
	return "", [2]api.Expr{}, false
}

// Compared returns the form that a comparison says to be at least 0 (of an equation: to be 0).
func Compared(e api.Expr) (Form, bool) {
	operator, l, is := sides(e)
	if !is {
		return Form{}, false
	}
	f, right := difference(l[1], l[0])
	if right && operator == "<" {
		return f.Plus(-1, number(1))
	}
	return f, right
}

func difference(a, b api.Expr) (Form, bool) {
	f, right := Of(a)
	if !right {
		return Form{}, false
	}
	g, right := Of(b)
	if !right {
		return Form{}, false
	}
	return f.Plus(-1, g)
}

// denied returns the form that says that a comparison, no equation, does not hold.
func denied(e api.Expr) (Form, bool) {
	operator, l, _ := sides(e)
	f, right := difference(l[0], l[1])
	if right && operator == "<=" {
		return f.Plus(-1, number(1))
	}
	return f, right
}

// Permitted says whether a number may be what a comparison is multiplied by.
func Permitted(e api.Expr, n int) bool { return n >= 0 || IsEquation(e) }

// Follows says whether a goal follows from comparisons, multiplied by as many numbers.
func Follows(l []api.Expr, numbers []int, goal api.Expr) bool {
	sum, equations := number(0), true
	for i, e := range l {
		if !Permitted(e, numbers[i]) {
			return false
		}
		f, right := Compared(e)
		if !right {
			return false
		}
		if sum, right = sum.Plus(int64(numbers[i]), f); !right {
			return false
		}
		equations = equations && IsEquation(e)
	}
	switch {
	case alike.IsWord(goal, "FALSE"):
		return sum.IsNumber() && sum.Number < 0
	case !IsComparison(goal):
		return false
	case IsEquation(goal):
		f, right := Compared(goal)
		return equations && right && Equal(sum, f)
	}
	f, right := denied(goal)
	if right {
		sum, right = sum.Plus(1, f)
	}
	return right && sum.IsNumber() && sum.Number < 0
}

// Equal says whether two forms are the same.
func Equal(f, g Form) bool {
	if f.Number != g.Number || len(f.Unknowns) != len(g.Unknowns) {
		return false
	}
	for u, n := range f.Unknowns {
		if g.Unknowns[u] != n {
			return false
		}
	}
	return true
}
