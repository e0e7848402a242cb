package tree

import (
	"strconv"
	"strings"

	"stutter/api"
	"stutter/words"
)

// FormatExpr returns the canonical text of an expression.
func FormatExpr(e api.Expr) (string, api.Errno) {
	if _, err := CheckExpr(e); err != api.OK {
		return "", err
	}
	p := printer{e}
	s := p.text(len(e)-1, false)
	if len(s) > api.MaxTextLength {
		return "", api.ErrLarge
	}
	return s, api.OK
}

// printer writes the nodes of a valid expression.
type printer struct{ e api.Expr }

// text is the text of a node; followed says that something of the same brackets comes behind it.
func (p printer) text(node int, followed bool) string {
	n := p.e[node]
	if isOpen(n) && followed {
		return "(" + p.text(node, false) + ")"
	}
	switch n.Kind {
	case api.ExprNumber:
		return strconv.Itoa(n.N)
	case api.ExprString:
		return `"` + n.Text + `"`
	case api.ExprName:
		return n.Text
	case api.ExprOld:
		return "@"
	case api.ExprApply:
		return p.applied(n, followed)
	case api.ExprTuple:
		return "<<" + p.list(n.Args) + ">>"
	case api.ExprSet:
		return "{" + p.list(n.Args) + "}"
	case api.ExprFuncs:
		return "[" + p.text(n.Args[0], false) + " -> " + p.text(n.Args[1], false) + "]"
	case api.ExprRecord:
		return "[" + p.fields(n, " |-> ") + "]"
	case api.ExprRecords:
		return "[" + p.fields(n, " : ") + "]"
	case api.ExprField:
		return p.firstOf(n.Args[0]) + "." + n.Text
	case api.ExprCall:
		return p.firstOf(n.Args[0]) + "[" + p.list(n.Args[1:]) + "]"
	case api.ExprExcept:
		return "[" + p.text(n.Args[0], false) + " EXCEPT ![" + p.text(n.Args[1], false) + "] = " + p.text(n.Args[2], false) + "]"
	case api.ExprBox:
		return "[" + p.text(n.Args[0], false) + "]_" + p.subscript(n.Args[1])
	case api.ExprAngle:
		return "<<" + p.text(n.Args[0], false) + ">>_" + p.subscript(n.Args[1])
	case api.ExprWeak:
		return "WF_" + p.subscript(n.Args[1]) + "(" + p.text(n.Args[0], false) + ")"
	case api.ExprStrong:
		return "SF_" + p.subscript(n.Args[1]) + "(" + p.text(n.Args[0], false) + ")"
	}
	return p.binding(n)
}

// isOpen says whether a node has no bracket at its end.
func isOpen(n api.Node) bool {
	switch n.Kind {
	case api.ExprAll, api.ExprSome, api.ExprAny, api.ExprExists, api.ExprChoose, api.ExprIf, api.ExprCase, api.ExprLet, api.ExprLambda:
		return true
	}
	return false
}

// binding is the text of a node that binds names, or goes as far as it can.
func (p printer) binding(n api.Node) string {
	if n.Kind == api.ExprCase {
		return p.cases(n) // it is written operand by operand: each operand is written once, for its text may take long
	}
	last := p.text(n.Args[len(n.Args)-1], false)
	switch n.Kind {
	case api.ExprFilter:
		return "{" + p.bounds(n) + " : " + last + "}"
	case api.ExprMap:
		if beginsLikeFilter(last) {
			last = "(" + last + ")"
		}
		return "{" + last + " : " + p.bounds(n) + "}"
	case api.ExprAll:
		return `\A ` + p.bounds(n) + " : " + last
	case api.ExprSome:
		return `\E ` + p.bounds(n) + " : " + last
	case api.ExprAny:
		return `\A ` + strings.Join(n.Names, ", ") + " : " + last
	case api.ExprExists:
		return `\E ` + strings.Join(n.Names, ", ") + " : " + last
	case api.ExprChoose:
		return "CHOOSE " + p.bounds(n) + " : " + last
	case api.ExprFunc:
		return "[" + p.bounds(n) + " |-> " + last + "]"
	case api.ExprIf:
		return "IF " + p.text(n.Args[0], false) + " THEN " + p.text(n.Args[1], false) + " ELSE " + last
	case api.ExprLet:
		return "LET " + letHead(n) + " == " + p.text(n.Args[0], false) + " IN " + last
	case api.ExprLambda:
		return "LAMBDA " + strings.Join(n.Names, ", ") + " : " + last
	}
	return ""
}

// bounds is the names of a node with their sets.
func (p printer) bounds(n api.Node) string {
	var out []string
	for i, name := range n.Names {
		out = append(out, name+` \in `+p.text(n.Args[i], false))
	}
	return strings.Join(out, ", ")
}

// fields is the names of a record with what they have.
func (p printer) fields(n api.Node, sign string) string {
	var out []string
	for i, name := range n.Names {
		out = append(out, name+sign+p.text(n.Args[i], false))
	}
	return strings.Join(out, ", ")
}

func (p printer) list(nodes []int) string {
	var out []string
	for _, i := range nodes {
		out = append(out, p.text(i, false))
	}
	return strings.Join(out, ", ")
}

// cases is the text of a CASE: an arm before another one is followed by it.
func (p printer) cases(n api.Node) string {
	out := "CASE "
	for i := 0; i < len(n.Args); i += 2 {
		if i > 0 {
			out += " [] "
		}
		if i+1 == len(n.Args) {
			return out + "OTHER -> " + p.text(n.Args[i], false)
		}
		out += p.text(n.Args[i], false) + " -> " + p.text(n.Args[i+1], i+2 < len(n.Args))
	}
	return out
}

// letHead is what stands before the == of a LET.
func letHead(n api.Node) string {
	name, params := n.Names[0], n.Names[1:]
	head, places := name, ""
	if len(params) > 0 {
		head += "(" + strings.Join(params, ", ") + ")"
		places = "(_" + strings.Repeat(", _", len(params)-1) + ")"
	}
	if n.N == 1 {
		return "RECURSIVE " + name + places + " " + head
	}
	return head
}

// beginsLikeFilter says whether a text begins like a name with its set.
func beginsLikeFilter(text string) bool {
	name, _, found := strings.Cut(text, ` \in `)
	return found && words.IsWord(name) && (words.IsName(name) || words.IsBuiltIn(name))
}

// firstOf is the text of what stands before "[" or ".".
func (p printer) firstOf(node int) string {
	n := p.e[node]
	if _, is := operatorAt(n); is || n.Kind == api.ExprNumber {
		return "(" + p.text(node, false) + ")"
	}
	return p.text(node, true)
}

// subscript is the text of what stands behind "_".
func (p printer) subscript(node int) string {
	n := p.e[node]
	if n.Kind == api.ExprTuple || n.Kind == api.ExprName && words.IsName(n.Text) {
		return p.text(node, false)
	}
	return "(" + p.text(node, false) + ")"
}

// applied is the text of an operator with its operands.
func (p printer) applied(n api.Node, followed bool) string {
	o, is := operatorAt(n)
	if !is {
		return n.Text + "(" + p.list(n.Args) + ")"
	}
	switch o.Fix {
	case api.FixPrefix:
		return prefixSign(o.Text) + p.operand(n.Args[0], followed, func(q api.Operator) bool { return boundByPrefix(o, q) })
	case api.FixPostfix:
		return p.operand(n.Args[0], true, func(q api.Operator) bool { return q.Text != o.Text }) + o.Text
	}
	out := ""
	for i, a := range n.Args {
		last := i == len(n.Args)-1
		out += p.operand(a, followed || !last, func(q api.Operator) bool {
			return q.Low <= o.High && !(i == 0 && q.Text == o.Text && o.Left)
		})
		if !last {
			out += " " + o.Text + " "
		}
	}
	return out
}

// boundByPrefix says whether an operator as the operand of a prefix operator has parentheses.
func boundByPrefix(o, q api.Operator) bool {
	if q.Fix == api.FixPrefix {
		return q.Low < o.Low || q.Text == "-." && o.Text == "-."
	}
	return q.Low <= o.High
}

// operand is the text of an operand, in parentheses if its operator asks for them.
func (p printer) operand(node int, followed bool, enclosed func(api.Operator) bool) string {
	if q, is := operatorAt(p.e[node]); is && enclosed(q) {
		return "(" + p.text(node, false) + ")"
	}
	return p.text(node, followed)
}

func prefixSign(text string) string {
	switch text {
	case "-.":
		return "-"
	case "~", "[]", "<>":
		return text
	}
	return text + " "
}
