package units

import (
	"slices"
	"strings"

	"stutter/api"
	"stutter/parse"
	"stutter/words"
)

// failure is why and at which token a text is no module.
type failure struct {
	at  int
	err api.Errno
}

// reader goes through the tokens of a text.
type reader struct {
	list []api.Token
	at   int
}

// fail gives up at the next token.
func (r *reader) fail() {
	if r.at >= len(r.list) {
		panic(failure{r.at, api.ErrEnd})
	}
	panic(failure{r.at, api.ErrSyntax})
}

// is says whether the next token has one of these texts.
func (r *reader) is(texts ...string) bool {
	return r.at < len(r.list) && slices.Contains(texts, r.list[r.at].Text)
}

// isRule says whether the token so many places ahead is a rule of a sign.
func (r *reader) isRule(sign string) bool {
	return r.at < len(r.list) && r.list[r.at].Kind == api.TokenRule && strings.HasPrefix(r.list[r.at].Text, sign)
}

func (r *reader) take(text string) {
	if !r.taken(text) {
		r.fail()
	}
}

func (r *reader) taken(texts ...string) bool {
	if r.is(texts...) {
		r.at++
		return true
	}
	return false
}

func (r *reader) takeRule(sign string) {
	if !r.isRule(sign) {
		r.fail()
	}
	r.at++
}

func (r *reader) isName() bool {
	return r.at < len(r.list) && r.list[r.at].Kind == api.TokenName && words.IsName(r.list[r.at].Text)
}

func (r *reader) name() string {
	if !r.isName() {
		r.fail()
	}
	r.at++
	return r.list[r.at-1].Text
}

func (r *reader) names() []string {
	out := []string{r.name()}
	for r.taken(",") {
		out = append(out, r.name())
	}
	return out
}

// operators reads names, each perhaps with "(_, _)".
func (r *reader) operators() (names []string, arities []int) {
	for {
		names = append(names, r.name())
		arities = append(arities, r.places())
		if !r.taken(",") {
			return names, arities
		}
	}
}

// places reads "(_, _)", and returns how many places there are.
func (r *reader) places() int {
	if !r.taken("(") {
		return 0
	}
	n := 0
	for n == 0 || r.taken(",") {
		r.take("_")
		n++
	}
	r.take(")")
	return n
}

// expression reads an expression as far as it goes.
func (r *reader) expression() api.Expr {
	e, n, err := parse.ParsePrefix(r.list[r.at:])
	if err != api.OK {
		panic(failure{r.at + n, err})
	}
	r.at += n
	return e
}

// module reads a module; the places of its units go to at.
func (r *reader) module(at func(from, to int)) api.Module {
	r.takeRule("-")
	r.take("MODULE")
	m := api.Module{Name: r.name()}
	r.takeRule("-")
	if r.taken("EXTENDS") {
		m.Extends = r.names()
	}
	var recursive []string
	for !r.isRule("=") {
		from := r.at
		u := r.unit()
		if u.Kind == api.UnitRecursive {
			recursive = append(recursive, u.Names...)
		}
		if u.Kind == api.UnitDefinition {
			u.Def.Recursive = slices.Contains(recursive, u.Def.Name)
		}
		m.Units = append(m.Units, u)
		at(from, r.at)
	}
	r.at++
	return m
}

// unit reads a unit.
func (r *reader) unit() api.Unit {
	switch {
	case r.taken("CONSTANT", "CONSTANTS"):
		names, arities := r.operators()
		return api.Unit{Kind: api.UnitConstants, Names: names, Arities: arities}
	case r.taken("VARIABLE", "VARIABLES"):
		return api.Unit{Kind: api.UnitVariables, Names: r.names()}
	case r.taken("RECURSIVE"):
		names, arities := r.operators()
		return api.Unit{Kind: api.UnitRecursive, Names: names, Arities: arities}
	case r.taken("ASSUME", "ASSUMPTION", "AXIOM"):
		return r.statement(api.UnitAssume)
	case r.taken("THEOREM", "LEMMA", "PROPOSITION"):
		return r.statement(api.UnitTheorem)
	case r.isRule("-"):
		if r.at+1 < len(r.list) && r.list[r.at+1].Text == "MODULE" {
			inner := r.module(func(int, int) {})
			return api.Unit{Kind: api.UnitModule, Inner: []api.Module{inner}}
		}
		r.at++
		return api.Unit{Kind: api.UnitRule}
	}
	local := r.taken("LOCAL")
	if r.is("INSTANCE") {
		return r.instance("", nil, local)
	}
	return r.definition(local)
}

// statement reads what is behind ASSUME or THEOREM.
func (r *reader) statement(kind int) api.Unit {
	u := api.Unit{Kind: kind}
	if r.isName() && r.at+1 < len(r.list) && r.list[r.at+1].Text == "==" {
		u.Name = r.name()
		r.at++
	}
	u.Expr = r.expression()
	return u
}

// definition reads a definition, or an instance with a name.
func (r *reader) definition(local bool) api.Unit {
	d := api.Def{Name: r.name(), Local: local}
	if r.taken("(") {
		d.Params, d.Arities = r.operators()
		r.take(")")
	}
	r.take("==")
	plain := !slices.ContainsFunc(d.Arities, func(n int) bool { return n > 0 })
	if plain && r.is("INSTANCE") {
		return r.instance(d.Name, d.Params, local)
	}
	d.Body = r.expression()
	return api.Unit{Kind: api.UnitDefinition, Def: d}
}

// instance reads INSTANCE and what is behind it.
func (r *reader) instance(name string, params []string, local bool) api.Unit {
	r.take("INSTANCE")
	x := api.Instance{Name: name, Params: params, Local: local, Module: r.name()}
	if r.taken("WITH") {
		for len(x.Names) == 0 || r.taken(",") {
			x.Names = append(x.Names, r.name())
			r.take("<-")
			x.With = append(x.With, r.expression())
		}
	}
	return api.Unit{Kind: api.UnitInstance, Instance: x}
}
