package pluscal

import (
	"stutter/api"
)

// statements reads statements up to what ends them.
func (r *reader) statements() []api.PlusStmt {
	var out []api.PlusStmt
	for {
		s := r.statement()
		out = append(out, s)
		separated := r.taken(";")
		if r.is("end", "elsif", "else", "or", "}") || r.at >= len(r.list) {
			return out
		}
		if !separated && !(r.short && r.list[r.at-1].Text == "}") {
			r.stop()
		}
	}
}

// body reads the statements of a block in the short syntax: in braces, or one alone.
func (r *reader) body() []api.PlusStmt {
	if !r.taken("{") {
		return []api.PlusStmt{r.statement()}
	}
	l := r.statements()
	r.take("}")
	return l
}

// statement reads a statement, with its label.
func (r *reader) statement() api.PlusStmt {
	label := ""
	if r.isNameAt(0) && r.at+1 < len(r.list) && r.list[r.at+1].Text == ":" {
		label = r.name()
		r.at++
	}
	s := r.unlabelled()
	s.Label = label
	return s
}

func (r *reader) unlabelled() api.PlusStmt {
	switch {
	case r.taken("skip"):
		return api.PlusStmt{Kind: api.PlusSkip}
	case r.taken("await"):
		return api.PlusStmt{Kind: api.PlusAwait, Exprs: []api.Expr{r.expression()}}
	case r.taken("assert"):
		return api.PlusStmt{Kind: api.PlusAssert, Exprs: []api.Expr{r.expression()}}
	case r.taken("return"):
		return api.PlusStmt{Kind: api.PlusReturn}
	case r.taken("goto"):
		return api.PlusStmt{Kind: api.PlusGoto, Name: r.name()}
	case r.taken("call"):
		s := api.PlusStmt{Kind: api.PlusCall, Name: r.name()}
		r.take("(")
		s.Exprs = r.expressions(")")
		return s
	case r.taken("if"):
		s := r.condition()
		if !r.short {
			r.take("end", "if")
		}
		return s
	case r.taken("while"):
		return r.while()
	case r.taken("either"):
		return r.choice()
	case r.taken("with"):
		return r.with()
	}
	if r.isNameAt(0) && r.at+1 < len(r.list) && r.list[r.at+1].Text == "(" {
		s := api.PlusStmt{Kind: api.PlusUse, Name: r.name()}
		r.at++
		s.Exprs = r.expressions(")")
		return s
	}
	return r.assignment()
}

// assignment reads targets with what they are assigned.
func (r *reader) assignment() api.PlusStmt {
	s := api.PlusStmt{Kind: api.PlusAssign}
	for len(s.Targets) == 0 || r.taken("||") {
		t := api.PlusTarget{Name: r.name()}
		switch {
		case r.taken("["):
			t.Index = []api.Expr{r.expression()}
			for r.taken(",") {
				e := r.expression()
				t.Index = append(t.Index, e)
			}
			r.take("]")
		case r.taken("."):
			t.Field = r.name()
		}
		r.take(":=")
		s.Targets = append(s.Targets, t)
		e := r.expression()
		s.Exprs = append(s.Exprs, e)
	}
	return s
}

// enclosed reads an expression, which has parentheses around it in the short syntax.
func (r *reader) enclosed() api.Expr {
	r.either(nil, []string{"("})
	e := r.expression()
	r.either(nil, []string{")"})
	return e
}

// condition reads what is behind "if" or "elsif", without the end.
func (r *reader) condition() api.PlusStmt {
	s := api.PlusStmt{Kind: api.PlusIf, Exprs: []api.Expr{r.enclosed()}, Blocks: make([][]api.PlusStmt, 2)}
	if r.short {
		s.Blocks[0] = r.body()
		if r.taken("else") {
			s.Blocks[1] = r.body()
		}
		return s
	}
	r.take("then")
	s.Blocks[0] = r.statements()
	if r.taken("elsif") {
		s.Blocks[1] = []api.PlusStmt{r.condition()}
	} else if r.taken("else") {
		s.Blocks[1] = r.statements()
	}
	return s
}

func (r *reader) while() api.PlusStmt {
	s := api.PlusStmt{Kind: api.PlusWhile, Exprs: []api.Expr{r.enclosed()}}
	s.Blocks = [][]api.PlusStmt{r.inner("while")}
	return s
}

// inner reads the block of a while or a with.
func (r *reader) inner(word string) []api.PlusStmt {
	if r.short {
		return r.body()
	}
	r.take("do")
	l := r.statements()
	r.take("end", word)
	return l
}

// choice reads what is behind "either".
func (r *reader) choice() api.PlusStmt {
	s := api.PlusStmt{Kind: api.PlusEither}
	branch := r.statements
	if r.short {
		branch = r.body
	}
	for len(s.Blocks) < 2 || r.is("or") {
		if len(s.Blocks) > 0 {
			r.take("or")
		}
		l := branch()
		s.Blocks = append(s.Blocks, l)
	}
	if !r.short {
		r.take("end", "either")
	}
	return s
}

// with reads what is behind "with": several names are one with in another.
func (r *reader) with() api.PlusStmt {
	r.either(nil, []string{"("})
	var l []api.PlusStmt
	for len(l) == 0 || r.taken(",") {
		s := api.PlusStmt{Kind: api.PlusWith, Name: r.name(), In: r.taken(`\in`)}
		if !s.In {
			r.take("=")
		}
		s.Exprs = []api.Expr{r.expression()}
		l = append(l, s)
	}
	r.either(nil, []string{")"})
	block := r.inner("with")
	for i := len(l) - 1; i > 0; i-- {
		l[i].Blocks = [][]api.PlusStmt{block}
		block = []api.PlusStmt{l[i]}
	}
	l[0].Blocks = [][]api.PlusStmt{block}
	return l[0]
}
