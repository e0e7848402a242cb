package pluscal

import (
	"strings"

	"stutter/api"
	"stutter/layout"
	"stutter/tree"
)

// printer writes the lines of a valid algorithm; short says in which syntax.
type printer struct {
	short bool
	lines []string
}

// line adds a line.
func (p *printer) line(depth int, parts ...string) {
	p.lines = append(p.lines, strings.Repeat("  ", depth)+strings.Join(parts, ""))
}

func text(e api.Expr) string {
	s, _ := tree.FormatExpr(e)
	return s
}

func texts(l []api.Expr) string {
	var out []string
	for _, e := range l {
		out = append(out, text(e))
	}
	return strings.Join(out, ", ")
}

func fairSign(fair int) string {
	return []string{"", "fair ", "fair strong "}[fair]
}

// format returns the lines of an algorithm.
func format(a api.Algorithm, short bool) ([]string, api.Errno) {
	if _, err := CheckAlgorithm(a); err != api.OK {
		return nil, err
	}
	p := &printer{short: short}
	p.algorithm(a)
	if !layout.Fit(p.lines) {
		return nil, api.ErrLarge
	}
	return p.lines, api.OK
}

// FormatLong returns the lines of an algorithm in the long syntax.
func FormatLong(a api.Algorithm) ([]string, api.Errno) { return format(a, false) }

// FormatShort returns the lines of an algorithm in the short syntax.
func FormatShort(a api.Algorithm) ([]string, api.Errno) { return format(a, true) }

func (p *printer) algorithm(a api.Algorithm) {
	depth := 0
	if p.short {
		depth = 1
		p.line(0, "--", fairSign(a.Fair), "algorithm ", a.Name, " {")
	} else {
		p.line(0, "--", fairSign(a.Fair), "algorithm ", a.Name)
	}
	p.vars(depth, a.Vars)
	if len(a.Defs) > 0 {
		p.line(depth, p.pick("define", "define {"))
		for _, d := range a.Defs {
			p.line(depth+1, defHead(d), " == ", text(d.Body))
		}
		p.line(depth, p.pick("end define;", "}"))
	}
	for _, m := range a.Macros {
		p.line(depth, "macro ", m.Name, "(", strings.Join(m.Params, ", "), p.pick(") begin", ") {"))
		p.list(depth+1, m.Body)
		p.line(depth, p.pick("end macro;", "}"))
	}
	for _, q := range a.Procedures {
		p.line(depth, "procedure ", q.Name, "(", strings.Join(q.Params, ", "), ")")
		p.vars(depth, q.Vars)
		p.block(depth, q.Body, "end procedure;")
	}
	for _, q := range a.Processes {
		sign := " = "
		if q.In {
			sign = ` \in `
		}
		p.line(depth, fairSign(q.Fair), "process ", p.pick("", "("), q.Name, sign, text(q.Value), p.pick("", ")"))
		p.vars(depth, q.Vars)
		p.block(depth, q.Body, "end process;")
	}
	switch {
	case len(a.Body) == 0:
		p.line(0, p.pick("end algorithm", "}"))
	case p.short:
		p.block(depth, a.Body, "")
		p.line(0, "}")
	default:
		p.block(depth, a.Body, "end algorithm")
	}
}

// pick is what the syntax says.
func (p *printer) pick(long, short string) string {
	if p.short {
		return short
	}
	return long
}

// block is statements between begin and end.
func (p *printer) block(depth int, l []api.PlusStmt, end string) {
	p.line(depth, p.pick("begin", "{"))
	p.list(depth+1, l)
	p.line(depth, p.pick(end, "}"))
}

func (p *printer) vars(depth int, l []api.PlusVar) {
	var out []string
	for _, v := range l {
		s := v.Name
		switch v.Begins {
		case api.PlusEqual:
			s += " = " + text(v.Value)
		case api.PlusIn:
			s += ` \in ` + text(v.Value)
		}
		out = append(out, s)
	}
	if len(l) > 0 {
		p.line(depth, "variables ", strings.Join(out, ", "), ";")
	}
}

func defHead(d api.Def) string {
	var out []string
	for i, name := range d.Params {
		if n := d.Arities[i]; n > 0 {
			name += "(_" + strings.Repeat(", _", n-1) + ")"
		}
		out = append(out, name)
	}
	if len(out) == 0 {
		return d.Name
	}
	return d.Name + "(" + strings.Join(out, ", ") + ")"
}

func (p *printer) list(depth int, l []api.PlusStmt) {
	for _, s := range l {
		label := ""
		if s.Label != "" {
			label = s.Label + ": "
		}
		p.statement(depth, label, s)
	}
}

// statement is the lines of a statement.
func (p *printer) statement(depth int, label string, s api.PlusStmt) {
	switch s.Kind {
	case api.PlusIf:
		p.condition(depth, label, s)
	case api.PlusWhile:
		p.nested(depth, label+p.pick("while "+text(s.Exprs[0])+" do", "while ("+text(s.Exprs[0])+") {"), s, "end while;")
	case api.PlusWith:
		sign := " = "
		if s.In {
			sign = ` \in `
		}
		head := s.Name + sign + text(s.Exprs[0])
		p.nested(depth, label+p.pick("with "+head+" do", "with ("+head+") {"), s, "end with;")
	case api.PlusEither:
		for i, b := range s.Blocks {
			if i == 0 {
				p.line(depth, label, p.pick("either", "either {"))
			} else {
				p.line(depth, p.pick("or", "} or {"))
			}
			p.list(depth+1, b)
		}
		p.line(depth, p.pick("end either;", "};"))
	default:
		p.line(depth, label, simple(s), ";")
	}
}

// nested is a statement with one block.
func (p *printer) nested(depth int, head string, s api.PlusStmt, end string) {
	p.line(depth, head)
	p.list(depth+1, s.Blocks[0])
	p.line(depth, p.pick(end, "};"))
}

// condition is a PlusIf; one without a label that is all of the else block goes on in its line.
func (p *printer) condition(depth int, label string, s api.PlusStmt) {
	p.line(depth, label, p.pick("if "+text(s.Exprs[0])+" then", "if ("+text(s.Exprs[0])+") {"))
	for {
		p.list(depth+1, s.Blocks[0])
		other := s.Blocks[1]
		if len(other) != 1 || other[0].Kind != api.PlusIf || other[0].Label != "" {
			if len(other) > 0 {
				p.line(depth, p.pick("else", "} else {"))
				p.list(depth+1, other)
			}
			p.line(depth, p.pick("end if;", "};"))
			return
		}
		s = other[0]
		p.line(depth, p.pick("elsif "+text(s.Exprs[0])+" then", "} else if ("+text(s.Exprs[0])+") {"))
	}
}

// simple is a statement without blocks.
func simple(s api.PlusStmt) string {
	switch s.Kind {
	case api.PlusSkip:
		return "skip"
	case api.PlusAwait:
		return "await " + text(s.Exprs[0])
	case api.PlusGoto:
		return "goto " + s.Name
	case api.PlusCall:
		return "call " + s.Name + "(" + texts(s.Exprs) + ")"
	case api.PlusReturn:
		return "return"
	case api.PlusAssert:
		return "assert " + text(s.Exprs[0])
	case api.PlusUse:
		return s.Name + "(" + texts(s.Exprs) + ")"
	}
	var out []string
	for i, t := range s.Targets {
		name := t.Name
		if t.Field != "" {
			name += "." + t.Field
		}
		if len(t.Index) > 0 {
			name += "[" + texts(t.Index) + "]"
		}
		out = append(out, name+" := "+text(s.Exprs[i]))
	}
	return strings.Join(out, " || ")
}
