// Package layout prints expressions on lines.
package layout

import (
	"strings"

	"stutter/api"
	"stutter/exprs"
	"stutter/tree"
)

// lastListColumn is the last column at which a list is printed as one.
const lastListColumn = 60

// Printed returns the lines of a valid expression that begins at a column, with the blanks before it.
func Printed(e api.Expr, column int) ([]string, api.Errno) { return printed(exprs.Grow(e), column) }

// Fit says whether lines are not too many or too long for a text.
func Fit(l []string) bool {
	for _, line := range l {
		if len(line) > api.MaxColumns {
			return false
		}
	}
	return len(l) <= api.MaxLines
}

func printed(t *exprs.Tree, column int) ([]string, api.Errno) {
	if t.Kind != api.ExprApply || t.Text != `/\` && t.Text != `\/` || column > lastListColumn {
		text, err := tree.FormatExpr(t.Flat())
		return wrapped(text, column), err
	}
	var out []string
	for _, operand := range operandsOf(t) {
		lines, err := printed(operand, column+3)
		if err != api.OK {
			return nil, err
		}
		lines[0] = strings.Repeat(" ", column) + t.Text + " " + lines[0][column+3:]
		out = append(out, lines...)
	}
	return out, api.OK
}

// wrapped cuts a text at blanks outside of strings.
func wrapped(text string, column int) []string {
	var out []string
	line, empty := strings.Repeat(" ", column), true
	for _, piece := range piecesOf(text) {
		switch {
		case empty:
			line += piece
		case len(line)+1+len(piece) > api.WrapColumn:
			out = append(out, line)
			line = strings.Repeat(" ", column+2) + piece
		default:
			line += " " + piece
		}
		empty = false
	}
	return append(out, line)
}

// piecesOf splits a text at blanks outside of strings.
func piecesOf(text string) []string {
	var out []string
	from, quoted := 0, false
	for i, c := range []byte(text) {
		switch {
		case c == '"':
			quoted = !quoted
		case c == ' ' && !quoted:
			out = append(out, text[from:i])
			from = i + 1
		}
	}
	return append(out, text[from:])
}

// operandsOf are the operands of a list: those of the first operand, if it has the same root, and so on.
func operandsOf(t *exprs.Tree) []*exprs.Tree {
	first := t.Kids[0]
	if first.Kind == api.ExprApply && first.Text == t.Text {
		return append(operandsOf(first), t.Kids[1])
	}
	return []*exprs.Tree{first, t.Kids[1]}
}
