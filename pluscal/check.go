package pluscal

import (
	"slices"

	"stutter/api"
	"stutter/eval"
)

// checker looks at an algorithm; it panics with a fault.
type checker struct {
	api.Algorithm
	parts  []part
	names  []string
	labels []string
}

// fault is an error with its place.
type fault struct {
	at  api.PlusPlace
	err api.Errno
}

// fail gives up if something is wrong.
func fail(wrong bool, err api.Errno, at ...api.PlusPlace) {
	if !wrong {
		return
	}
	f := fault{err: err}
	if len(at) > 0 {
		f.at = at[0]
	}
	panic(f)
}

// CheckAlgorithm says whether an algorithm is right.
func CheckAlgorithm(a api.Algorithm) (at api.PlusPlace, err api.Errno) {
	defer func() {
		if r := recover(); r != nil {
			at, err = api.PlusPlace{}, api.ErrForm // a function that the document lists does not panic
			if f, is := r.(fault); is {
				at, err = f.at, f.err
			}
		}
	}()
	c := &checker{Algorithm: a}
	c.checkSize()
	c.parts = partsOf(a)
	c.checkNames()
	c.checkVars()
	c.checkHeads()
	for _, p := range c.parts {
		c.checkPart(p)
	}
	for _, p := range c.parts {
		c.checkRules(p)
	}
	return api.PlusPlace{}, api.OK
}

// checkSize looks at how many parts there are, and at the algorithm's head.
func (c *checker) checkSize() {
	most := api.MaxPlusParts
	fail(len(c.Macros) > most || len(c.Procedures) > most || len(c.Processes) > most || len(c.Defs) > api.MaxDefs, api.ErrLarge)
	vars, left := len(c.Vars), api.MaxPlusStmts
	for _, p := range partsOf(c.Algorithm) {
		if p.kind != partMacro {
			vars += len(p.params) + len(p.vars)
		}
	}
	fail(vars > api.MaxPlusVars, api.ErrLarge)
	for _, p := range partsOf(c.Algorithm) {
		fail(tooMany(p.body, 1, &left), api.ErrLarge)
	}
	fail(!isName(c.Name), api.ErrName)
	fail((len(c.Processes) == 0) == (len(c.Body) == 0), api.ErrShape)
	fail(c.Fair < 0 || c.Fair >= api.PlusFairness || c.Fair != 0 && len(c.Processes) > 0, api.ErrRange)
}

// checkNames looks at the names of the algorithm, in their order.
func (c *checker) checkNames() {
	add := func(names ...string) {
		for _, n := range names {
			fail(!isName(n) || isOwn(n) || n == "Done" || n == "Error" || n == "defaultInitValue", api.ErrName)
			fail(slices.Contains(c.names, n), api.ErrExists)
			c.names = append(c.names, n)
		}
	}
	for _, v := range c.Vars {
		add(v.Name)
	}
	for _, d := range c.Defs {
		add(d.Name)
	}
	for _, p := range c.parts {
		if p.kind != partBody {
			add(p.name)
		}
		if p.kind != partMacro {
			add(p.names()...)
		}
	}
}

// checkVars looks at variables and definitions.
func (c *checker) checkVars() {
	all := slices.Clone(c.Vars)
	for _, p := range c.parts {
		all = append(all, p.vars...)
	}
	for _, v := range all {
		fail(v.Begins < 0 || v.Begins >= api.PlusBegins, api.ErrKind)
		if v.Begins == api.PlusNone {
			fail(len(v.Value) > 0, api.ErrForm)
			continue
		}
		err := checkExpr(v.Value)
		fail(err != api.OK, err)
	}
	_, err := eval.CheckContext(api.Context{Defs: c.Defs})
	fail(err != api.OK, err)
	for _, d := range c.Defs {
		fail(d.Local || d.Recursive, api.ErrForm)
		fail(slices.ContainsFunc(d.Params, isWord), api.ErrName)
		err := checkExpr(d.Body)
		fail(err != api.OK, err)
	}
}

// checkHeads looks at the heads of macros, procedures and processes.
func (c *checker) checkHeads() {
	for _, m := range c.Macros {
		fail(len(m.Params) > api.MaxPlusParts, api.ErrLarge)
		for i, n := range m.Params {
			fail(!isName(n), api.ErrName)
			fail(slices.Contains(m.Params[:i], n), api.ErrDouble)
			fail(slices.Contains(c.names, n) || isOwn(n), api.ErrExists)
		}
		fail(len(m.Body) == 0, api.ErrEmpty)
	}
	for _, p := range c.Procedures {
		fail(len(p.Params) > api.MaxPlusParts, api.ErrLarge)
		fail(slices.ContainsFunc(p.Vars, func(v api.PlusVar) bool { return v.Begins == api.PlusIn }), api.ErrRefused)
		fail(len(p.Body) == 0, api.ErrEmpty)
	}
	for _, p := range c.Processes {
		fail(p.Fair < 0 || p.Fair >= api.PlusFairness, api.ErrRange)
		err := checkExpr(p.Value)
		fail(err != api.OK, err)
		fail(len(p.Body) == 0, api.ErrEmpty)
	}
}

// known are the variables that a part can assign.
func (c *checker) known(p part) []string {
	out := p.names()
	for _, v := range c.Vars {
		out = append(out, v.Name)
	}
	return out
}

// visitor looks at the statements of a part.
type visitor struct {
	*checker
	part
	known  []string
	labels []string // all labels of the part
}

// checkPart looks at the statements of a part, one by one.
func (c *checker) checkPart(p part) {
	v := &visitor{checker: c, part: p, known: c.known(p)}
	nodes := p.nodes()
	each(nodes, nil, func(n *node, _ []*node) {
		if n.Label != "" {
			v.labels = append(v.labels, n.Label)
		}
	})
	each(nodes, nil, func(n *node, around []*node) {
		at := api.PlusPlace{Part: p.name, Stmt: n.number}
		v.checkShape(n, at)
		v.checkTexts(n, at)
		v.checkBound(n, around, at)
		v.checkMeaning(n, at)
		v.checkState(n, around, at)
	})
}

// shapes are for each kind how many expressions (below 0: up to so many), blocks (below 0: from 2 on), and whether it has a name.
var shapes = [api.PlusKinds][3]int{api.PlusIf: {1, 2, 0}, api.PlusWhile: {1, 1, 0}, api.PlusAwait: {1, 0, 0}, api.PlusEither: {0, -1, 0}, api.PlusWith: {1, 1, 1},
	api.PlusGoto: {0, 0, 1}, api.PlusCall: {-1, 0, 1}, api.PlusAssert: {1, 0, 0}, api.PlusUse: {-1, 0, 1}}

// checkShape looks at the kind of a statement, and at how many parts it has.
func (v *visitor) checkShape(n *node, at api.PlusPlace) {
	fail(n.Kind < 0 || n.Kind >= api.PlusKinds, api.ErrKind, at)
	shape := shapes[n.Kind]
	most := api.MaxPlusParts
	targets, expr, blocks := len(n.Targets), len(n.Exprs), len(n.Blocks)
	if n.Kind == api.PlusAssign {
		fail(targets < 1 || targets > most || expr != targets || blocks != 0, api.ErrShape, at)
	} else {
		fail(targets != 0 || shape[0] >= 0 && expr != shape[0] || expr > most, api.ErrShape, at)
		fail(shape[1] >= 0 && blocks != shape[1] || shape[1] < 0 && (blocks < 2 || blocks > most), api.ErrShape, at)
	}
	for i, b := range n.Blocks {
		fail(len(b) == 0 && !(n.Kind == api.PlusIf && i == 1), api.ErrShape, at)
	}
	for _, t := range n.Targets {
		fail(t.Field != "" && len(t.Index) > 0 || len(t.Index) > most, api.ErrShape, at)
	}
	fail(shape[2] == 0 && n.Name != "" || n.Kind != api.PlusWith && n.In, api.ErrForm, at)
}

// checkTexts looks at the names and the expressions of a statement.
func (v *visitor) checkTexts(n *node, at api.PlusPlace) {
	fail(n.Label != "" && (!isName(n.Label) || n.Label == "Done" || n.Label == "Error"), api.ErrName, at)
	fail(shapes[n.Kind][2] == 1 && !isName(n.Name), api.ErrName, at)
	for _, t := range n.Targets {
		fail(!isName(t.Name) || t.Field != "" && !isName(t.Field), api.ErrName, at)
	}
	for _, e := range expressionsOf(n.PlusStmt) {
		err := checkExpr(e)
		fail(err != api.OK, err, at)
	}
}

// checkBound looks at the names that a statement binds, and at its label.
func (v *visitor) checkBound(n *node, around []*node, at api.PlusPlace) {
	taken := func(name string) bool {
		return slices.Contains(v.checker.names, name) || isOwn(name) || v.kind == partMacro && slices.Contains(v.params, name)
	}
	for _, e := range expressionsOf(n.PlusStmt) {
		fail(slices.ContainsFunc(boundIn(e), taken), api.ErrCapture, at)
	}
	if n.Kind == api.PlusWith {
		again := slices.ContainsFunc(around, func(w *node) bool { return w.Name == n.Name })
		fail(taken(n.Name) || again, api.ErrCapture, at)
	}
	if n.Label != "" {
		fail(slices.Contains(v.checker.labels, n.Label), api.ErrExists, at)
		v.checker.labels = append(v.checker.labels, n.Label)
	}
}

// checkMeaning looks at what the names of a statement mean.
func (v *visitor) checkMeaning(n *node, at api.PlusPlace) {
	for _, t := range n.Targets {
		fail(!slices.Contains(v.known, t.Name), api.ErrMissing, at)
	}
	switch n.Kind {
	case api.PlusGoto:
		fail(!slices.Contains(v.labels, n.Name), api.ErrMissing, at)
	case api.PlusCall:
		i := slices.IndexFunc(v.Procedures, func(p api.PlusProcedure) bool { return p.Name == n.Name })
		fail(i < 0, api.ErrMissing, at)
		fail(len(v.Procedures[i].Params) != len(n.Exprs), api.ErrArity, at)
	case api.PlusUse:
		i := slices.IndexFunc(v.Macros, func(m api.PlusMacro) bool { return m.Name == n.Name })
		fail(i < 0, api.ErrMissing, at)
		fail(len(v.Macros[i].Params) != len(n.Exprs), api.ErrArity, at)
		v.checkArguments(v.Macros[i], n, at)
	}
}

// checkArguments looks at the arguments of a macro that are assigned in it.
func (v *visitor) checkArguments(m api.PlusMacro, n *node, at api.PlusPlace) {
	count := 0
	each(grown(m.Body, &count), nil, func(inner *node, _ []*node) {
		for _, t := range inner.Targets {
			i := slices.Index(m.Params, t.Name)
			if i < 0 {
				continue
			}
			e := n.Exprs[i]
			fail(len(e) != 1 || e[0].Kind != api.ExprName || !slices.Contains(v.known, e[0].Text), api.ErrClash, at)
		}
	})
}

// checkState looks at whether a statement may stand where it does.
func (v *visitor) checkState(n *node, around []*node, at api.PlusPlace) {
	macro := v.kind == partMacro
	fail(n.Kind == api.PlusReturn && v.kind != partProcedure, api.ErrState, at)
	fail((macro || len(around) > 0) && (n.Label != "" || n.Kind == api.PlusWhile), api.ErrState, at)
	fail(macro && (n.Kind == api.PlusGoto || n.Kind == api.PlusCall || n.Kind == api.PlusUse), api.ErrState, at)
}
