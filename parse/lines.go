package parse

import (
	"stutter/api"
	"stutter/layout"
	"stutter/tree"
)

// LinesOf returns the lines of an expression.
func LinesOf(e api.Expr) ([]string, api.Errno) {
	if _, err := tree.CheckExpr(e); err != api.OK {
		return nil, err
	}
	out, err := layout.Printed(e, 0)
	if err != api.OK {
		return nil, err
	}
	if !layout.Fit(out) {
		return nil, api.ErrLarge
	}
	return out, api.OK
}
