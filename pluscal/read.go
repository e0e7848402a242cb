package pluscal

import (
	"slices"

	"stutter/api"
	"stutter/parse"
	"stutter/tokens"
)

// failure is why and at which token a text is no algorithm.
type failure struct {
	at  int
	err api.Errno
}

// reader goes through the tokens of an algorithm; short says in which syntax it is.
type reader struct {
	list  []api.Token
	at    int
	short bool
}

// ParseAlgorithm returns the algorithm with a text.
func ParseAlgorithm(lines []string) (api.Algorithm, api.TextPlace, api.Errno) {
	list, place, err := tokens.TokensOf(lines)
	if err != api.OK {
		return api.Algorithm{}, place, err
	}
	for i, t := range list {
		if t.Kind == api.TokenSymbol {
			list[i].Text, _ = tokens.CanonicalText(t.Text)
		}
	}
	a, f := read(list)
	if f.err != api.OK {
		return api.Algorithm{}, placeOf(lines, list, f.at), f.err
	}
	if _, err := CheckAlgorithm(a); err != api.OK {
		return api.Algorithm{}, api.TextPlace{}, err
	}
	return a, api.TextPlace{}, api.OK
}

// placeOf is where a token stands; at the end the place behind the last one. (Its spelling in the text may be longer.)
func placeOf(lines []string, list []api.Token, at int) api.TextPlace {
	if at < len(list) {
		return api.TextPlace{Line: list[at].Line, Column: list[at].Column}
	}
	if len(list) == 0 {
		return api.TextPlace{}
	}
	written, _, _ := tokens.TokensOf(lines)
	last := written[len(written)-1]
	return api.TextPlace{Line: last.Line, Column: last.Column + len(last.Text)}
}

// read reads an algorithm.
func read(list []api.Token) (a api.Algorithm, f failure) {
	defer func() {
		if r := recover(); r != nil {
			is := false
			if f, is = r.(failure); !is { // a function that the document lists does not panic
				f = failure{0, api.ErrSyntax}
			}
		}
	}()
	r := &reader{list: list}
	a = r.algorithm()
	if r.at < len(list) {
		r.stop()
	}
	return a, failure{}
}

func (r *reader) stop() { panic(failure{r.at, api.ErrSyntax}) }

// is says whether the next token has one of these texts.
func (r *reader) is(texts ...string) bool {
	return r.at < len(r.list) && slices.Contains(texts, r.list[r.at].Text)
}

// taken reads a token with this text if it comes next.
func (r *reader) taken(text string) bool {
	if r.is(text) {
		r.at++
		return true
	}
	return false
}

// take reads tokens with these texts.
func (r *reader) take(texts ...string) {
	for _, text := range texts {
		if !r.taken(text) {
			r.stop()
		}
	}
}

// either reads what the syntax says.
func (r *reader) either(long, short []string) {
	if r.short {
		r.take(short...)
	} else {
		r.take(long...)
	}
}

// isNameAt says whether the token so many places ahead is a name.
func (r *reader) isNameAt(ahead int) bool {
	i := r.at + ahead
	return i < len(r.list) && r.list[i].Kind == api.TokenName && isName(r.list[i].Text)
}

func (r *reader) name() string {
	if !r.isNameAt(0) {
		r.stop()
	}
	r.at++
	return r.list[r.at-1].Text
}

// names reads names in parentheses.
func (r *reader) names() []string {
	r.take("(")
	var out []string
	for !r.is(")") {
		if len(out) > 0 {
			r.take(",")
		}
		out = append(out, r.name())
	}
	r.take(")")
	return out
}

// expression reads an expression, which ends before the next word at the latest.
func (r *reader) expression() api.Expr {
	end := r.at
	for end < len(r.list) && !isWord(r.list[end].Text) {
		end++
	}
	e, n, err := parse.ParsePrefix(r.list[r.at:end])
	if err != api.OK {
		panic(failure{r.at + n, err})
	}
	r.at += n
	return e
}

// expressions reads expressions with commas between, up to a sign.
func (r *reader) expressions(end string) []api.Expr {
	var out []api.Expr
	for !r.is(end) {
		if len(out) > 0 {
			r.take(",")
		}
		e := r.expression()
		out = append(out, e)
	}
	r.take(end)
	return out
}

// fairness reads "fair" and "strong".
func (r *reader) fairness() int {
	switch {
	case !r.taken("fair"):
		return api.PlusUnfair
	case r.taken("strong"):
		return api.PlusStrong
	}
	return api.PlusWeak
}

func (r *reader) algorithm() api.Algorithm {
	r.take("-", "-")
	a := api.Algorithm{Fair: r.fairness()}
	r.take("algorithm")
	a.Name = r.name()
	r.short = r.taken("{")
	a.Vars = r.vars()
	a.Defs = r.define()
	for r.taken("macro") {
		m := api.PlusMacro{Name: r.name()}
		m.Params = r.names()
		m.Body = r.block("macro")
		a.Macros = append(a.Macros, m)
	}
	for r.taken("procedure") {
		p := api.PlusProcedure{Name: r.name()}
		p.Params = r.names()
		p.Vars = r.vars()
		p.Body = r.block("procedure")
		a.Procedures = append(a.Procedures, p)
	}
	if !r.is("fair", "process") {
		r.either([]string{"begin"}, []string{"{"})
		a.Body = r.statements()
		r.either([]string{"end", "algorithm"}, []string{"}", "}"})
		return a
	}
	for r.is("fair", "process") {
		p := r.process()
		a.Processes = append(a.Processes, p)
	}
	r.either([]string{"end", "algorithm"}, []string{"}"})
	return a
}

func (r *reader) process() api.PlusProcess {
	p := api.PlusProcess{Fair: r.fairness()}
	r.take("process")
	r.either(nil, []string{"("})
	p.Name = r.name()
	p.In = r.taken(`\in`)
	if !p.In {
		r.take("=")
	}
	p.Value = r.expression()
	r.either(nil, []string{")"})
	p.Vars = r.vars()
	p.Body = r.block("process")
	return p
}

// block reads the statements of a part.
func (r *reader) block(part string) []api.PlusStmt {
	r.either([]string{"begin"}, []string{"{"})
	l := r.statements()
	r.either([]string{"end", part}, []string{"}"})
	if !r.short {
		r.taken(";")
	}
	return l
}

func (r *reader) vars() []api.PlusVar {
	if !r.taken("variables") {
		return nil
	}
	var out []api.PlusVar
	for len(out) == 0 || r.taken(",") {
		v := api.PlusVar{Name: r.name()}
		switch {
		case r.taken("="):
			v.Begins = api.PlusEqual
			v.Value = r.expression()
		case r.taken(`\in`):
			v.Begins = api.PlusIn
			v.Value = r.expression()
		}
		out = append(out, v)
	}
	r.taken(";")
	return out
}

// define reads definitions.
func (r *reader) define() []api.Def {
	if !r.taken("define") {
		return nil
	}
	r.either(nil, []string{"{"})
	var out []api.Def
	for !r.is("end", "}") {
		d := api.Def{Name: r.name()}
		if r.taken("(") {
			for len(d.Params) == 0 || r.taken(",") {
				d.Params = append(d.Params, r.name())
				d.Arities = append(d.Arities, r.places())
			}
			r.take(")")
		}
		r.take("==")
		d.Body = r.expression()
		out = append(out, d)
	}
	r.either([]string{"end", "define"}, []string{"}"})
	if !r.short {
		r.taken(";")
	}
	return out
}

// places reads "(_, _)", and returns how many places there are.
func (r *reader) places() int {
	if !r.taken("(") {
		return 0
	}
	n := 0
	for n == 0 || r.taken(",") {
		r.take("_")
		n++
	}
	r.take(")")
	return n
}
