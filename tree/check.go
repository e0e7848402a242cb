package tree

import (
	"slices"

	"stutter/api"
	"stutter/exprs"
	"stutter/words"
)

// CheckExpr says whether nodes are a valid expression.
func CheckExpr(e api.Expr) (int, api.Errno) {
	if len(e) == 0 {
		return 0, api.ErrEmpty
	}
	if len(e) > api.MaxNodes {
		return 0, api.ErrLarge
	}
	starts := make([]int, len(e))
	for i, n := range e {
		if err := checkNode(n, i, starts); err != api.OK {
			return i, err
		}
	}
	if i := firstMisplaced(e); i != api.None {
		return i, api.ErrState
	}
	if starts[len(e)-1] != 0 {
		return len(e) - 1, api.ErrOpen
	}
	return 0, api.OK
}

// checkNode looks at one node, and keeps where its part begins.
func checkNode(n api.Node, at int, starts []int) api.Errno {
	if n.Kind < 0 || n.Kind >= api.ExprKinds {
		return api.ErrKind
	}
	if !hasShape(n) {
		return api.ErrShape
	}
	if !standTogether(n, at, starts) || !hasOwnFields(n) {
		return api.ErrForm
	}
	if n.Kind == api.ExprNumber && (n.N < 0 || n.N > api.MaxNumber) {
		return api.ErrRange
	}
	if !hasNames(n) {
		return api.ErrName
	}
	if o, is := operatorAt(n); is && (len(n.Args) < o.Least || len(n.Args) > o.Most) {
		return api.ErrArity
	}
	for i, name := range n.Names {
		if slices.Contains(n.Names[:i], name) {
			return api.ErrDouble
		}
	}
	return api.OK
}

// hasShape says whether a node has as many names and operands as its kind.
func hasShape(n api.Node) bool {
	names, args := len(n.Names), len(n.Args)
	switch n.Kind {
	case api.ExprApply:
		if words.IsName(n.Text) || words.IsQualified(n.Text) {
			return names == 0 && args >= 1 && args <= api.MaxParams
		}
		return names == 0
	case api.ExprTuple, api.ExprSet:
		return names == 0 && args <= api.MaxOperands
	case api.ExprFilter, api.ExprChoose:
		return names == 1 && args == 2
	case api.ExprMap, api.ExprAll, api.ExprSome, api.ExprFunc:
		return names >= 1 && names <= api.MaxBound && args == names+1
	case api.ExprAny, api.ExprExists:
		return names >= 1 && names <= api.MaxBound && args == 1
	case api.ExprCall:
		return names == 0 && args >= 2 && args <= api.MaxBound+1
	case api.ExprFuncs, api.ExprBox, api.ExprAngle, api.ExprWeak, api.ExprStrong:
		return names == 0 && args == 2
	case api.ExprRecord, api.ExprRecords:
		return names >= 1 && names <= api.MaxOperands && args == names
	case api.ExprField:
		return names == 0 && args == 1
	case api.ExprExcept, api.ExprIf:
		return names == 0 && args == 3
	case api.ExprCase:
		return names == 0 && args >= 2 && args <= api.MaxOperands
	case api.ExprLet:
		return names >= 1 && names <= api.MaxParams+1 && args == 2
	case api.ExprLambda:
		return names >= 1 && names <= api.MaxParams && args == 1
	}
	return names == 0 && args == 0
}

// standTogether says whether the operands of a node stand together just before it.
func standTogether(n api.Node, at int, starts []int) bool {
	next := at
	for _, a := range slices.Backward(n.Args) {
		if a != next-1 || a < 0 {
			return false
		}
		next = starts[a]
	}
	starts[at] = next
	return true
}

// hasOwnFields says whether a node has only what its kind uses.
func hasOwnFields(n api.Node) bool {
	switch n.Kind {
	case api.ExprNumber:
		return n.Text == ""
	case api.ExprLet:
		return n.Text == "" && (n.N == 0 || n.N == 1)
	case api.ExprString:
		return n.N == 0 && isPlainString(n.Text)
	case api.ExprName, api.ExprApply, api.ExprField:
		return n.N == 0
	}
	return n.N == 0 && n.Text == ""
}

func isPlainString(s string) bool {
	for _, c := range []byte(s) {
		if c < 32 || c > 126 || c == '"' || c == '\\' {
			return false
		}
	}
	return len(s) <= api.MaxChars
}

// hasNames says whether all names of a node are names.
func hasNames(n api.Node) bool {
	for _, name := range n.Names {
		if !words.IsName(name) {
			return false
		}
	}
	switch n.Kind {
	case api.ExprName:
		return words.IsName(n.Text) || words.IsBuiltIn(n.Text) || words.IsQualified(n.Text)
	case api.ExprField:
		return words.IsName(n.Text)
	case api.ExprApply:
		_, is := operatorAt(n)
		return is || words.IsName(n.Text) || words.IsQualified(n.Text)
	}
	return true
}

// firstMisplaced is the first LAMBDA that is no argument, or @ outside of an EXCEPT.
func firstMisplaced(e api.Expr) int {
	parents := exprs.Parents(e)
	for i, n := range e {
		switch n.Kind {
		case api.ExprLambda:
			if p := parents[i]; p == api.None || !appliesName(e[p]) {
				return i
			}
		case api.ExprOld:
			if !isWithinExcept(e, parents, i) {
				return i
			}
		}
	}
	return api.None
}

func appliesName(n api.Node) bool {
	_, is := operatorAt(n)
	return n.Kind == api.ExprApply && !is
}

func isWithinExcept(e api.Expr, parents []int, i int) bool {
	for p := parents[i]; p != api.None; i, p = p, parents[p] {
		if e[p].Kind == api.ExprExcept && e[p].Args[2] == i {
			return true
		}
	}
	return false
}
