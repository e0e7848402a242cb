package tree

import (
	"slices"

	"stutter/api"
)

// table is all operators: text, place, range of precedence, whether it may be repeated, and how many operands at most.
var table = [...]api.Operator{
	{Text: "~", Fix: api.FixPrefix, Low: 4, High: 4, Least: 1, Most: 1},
	{Text: "ENABLED", Fix: api.FixPrefix, Low: 4, High: 15, Least: 1, Most: 1},
	{Text: "UNCHANGED", Fix: api.FixPrefix, Low: 4, High: 15, Least: 1, Most: 1},
	{Text: "[]", Fix: api.FixPrefix, Low: 4, High: 15, Least: 1, Most: 1},
	{Text: "<>", Fix: api.FixPrefix, Low: 4, High: 15, Least: 1, Most: 1},
	{Text: "SUBSET", Fix: api.FixPrefix, Low: 8, High: 8, Least: 1, Most: 1},
	{Text: "UNION", Fix: api.FixPrefix, Low: 8, High: 8, Least: 1, Most: 1},
	{Text: "DOMAIN", Fix: api.FixPrefix, Low: 9, High: 9, Least: 1, Most: 1},
	{Text: "-.", Fix: api.FixPrefix, Low: 12, High: 12, Least: 1, Most: 1},
	{Text: "=>", Fix: api.FixInfix, Low: 1, High: 1, Least: 2, Most: 2},
	{Text: "<=>", Fix: api.FixInfix, Low: 2, High: 2, Least: 2, Most: 2},
	{Text: "~>", Fix: api.FixInfix, Low: 2, High: 2, Least: 2, Most: 2},
	{Text: `/\`, Fix: api.FixInfix, Low: 3, High: 3, Left: true, Least: 2, Most: 2},
	{Text: `\/`, Fix: api.FixInfix, Low: 3, High: 3, Left: true, Least: 2, Most: 2},
	{Text: "=", Fix: api.FixInfix, Low: 5, High: 5, Least: 2, Most: 2},
	{Text: "#", Fix: api.FixInfix, Low: 5, High: 5, Least: 2, Most: 2},
	{Text: "<", Fix: api.FixInfix, Low: 5, High: 5, Least: 2, Most: 2},
	{Text: "<=", Fix: api.FixInfix, Low: 5, High: 5, Least: 2, Most: 2},
	{Text: ">", Fix: api.FixInfix, Low: 5, High: 5, Least: 2, Most: 2},
	{Text: ">=", Fix: api.FixInfix, Low: 5, High: 5, Least: 2, Most: 2},
	{Text: `\in`, Fix: api.FixInfix, Low: 5, High: 5, Least: 2, Most: 2},
	{Text: `\notin`, Fix: api.FixInfix, Low: 5, High: 5, Least: 2, Most: 2},
	{Text: `\subseteq`, Fix: api.FixInfix, Low: 5, High: 5, Least: 2, Most: 2},
	{Text: `\sqsubseteq`, Fix: api.FixInfix, Low: 5, High: 5, Least: 2, Most: 2},
	{Text: "@@", Fix: api.FixInfix, Low: 6, High: 6, Left: true, Least: 2, Most: 2},
	{Text: ":>", Fix: api.FixInfix, Low: 7, High: 7, Least: 2, Most: 2},
	{Text: `\cdot`, Fix: api.FixInfix, Low: 5, High: 14, Left: true, Least: 2, Most: 2},
	{Text: `\cup`, Fix: api.FixInfix, Low: 8, High: 8, Left: true, Least: 2, Most: 2},
	{Text: `\cap`, Fix: api.FixInfix, Low: 8, High: 8, Left: true, Least: 2, Most: 2},
	{Text: `\`, Fix: api.FixInfix, Low: 8, High: 8, Least: 2, Most: 2},
	{Text: "..", Fix: api.FixInfix, Low: 9, High: 9, Least: 2, Most: 2},
	{Text: "+", Fix: api.FixInfix, Low: 10, High: 10, Left: true, Least: 2, Most: 2},
	{Text: "(+)", Fix: api.FixInfix, Low: 10, High: 10, Left: true, Least: 2, Most: 2},
	{Text: "%", Fix: api.FixInfix, Low: 10, High: 11, Least: 2, Most: 2},
	{Text: `\X`, Fix: api.FixInfix, Low: 10, High: 13, Least: 2, Most: 4},
	{Text: "-", Fix: api.FixInfix, Low: 11, High: 11, Left: true, Least: 2, Most: 2},
	{Text: "(-)", Fix: api.FixInfix, Low: 11, High: 11, Left: true, Least: 2, Most: 2},
	{Text: "*", Fix: api.FixInfix, Low: 13, High: 13, Left: true, Least: 2, Most: 2},
	{Text: `\div`, Fix: api.FixInfix, Low: 13, High: 13, Least: 2, Most: 2},
	{Text: `\o`, Fix: api.FixInfix, Low: 13, High: 13, Left: true, Least: 2, Most: 2},
	{Text: "^", Fix: api.FixInfix, Low: 14, High: 14, Least: 2, Most: 2},
	{Text: "'", Fix: api.FixPostfix, Low: 15, High: 15, Least: 1, Most: 1},
}

// OperatorOf returns the operator with a text.
func OperatorOf(text string) (api.Operator, api.Errno) {
	for _, o := range table {
		if o.Text == text {
			return o, api.OK
		}
	}
	return api.Operator{}, api.ErrMissing
}

// Operators returns the texts of all operators, ascending.
func Operators() []string {
	var out []string
	for _, o := range table {
		out = append(out, o.Text)
	}
	slices.Sort(out)
	return out
}

// operatorAt returns the operator that a node applies, if it is one of the table.
func operatorAt(n api.Node) (api.Operator, bool) {
	if n.Kind != api.ExprApply {
		return api.Operator{}, false
	}
	o, err := OperatorOf(n.Text)
	return o, err == api.OK
}
