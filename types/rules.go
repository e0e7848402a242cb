package types

import (
	"slices"

	"stutter/api"
	"stutter/exprs"
	"stutter/tree"
)

// failure is why and at which node there is no type.
type failure struct {
	at  int
	err api.Errno
}

// binding is what a name stands for, the innermost one first: a type, or the definition of a LET.
type binding struct {
	name  string
	is    *term
	let   *exprs.Tree
	names *binding
	next  *binding
}

// scene is where a node stands: the names that are bound there, and the node that uses the definition in which it is (None: none).
type scene struct {
	names *binding
	place int
}

func (e scene) with(name string, t *term) scene {
	return scene{&binding{name: name, is: t, next: e.names}, e.place}
}

// known is the names that no node binds: given ones with their types, and definitions.
type known struct {
	given map[string]*term
	defs  map[string]api.Def
}

// visitor goes through expressions. With given types it checks these, and notes the nodes whose rules fail; otherwise it panics with a failure.
type visitor struct {
	known
	types []*term // of the nodes of the expression
	fixed []*term
	wrong []int
	count int
}

func placeOf(t *exprs.Tree, e scene) int {
	if e.place != api.None {
		return e.place
	}
	return t.Index
}

// fail ends the visit at a node, or notes it.
func (x *visitor) fail(t *exprs.Tree, e scene, err api.Errno) {
	if x.fixed != nil {
		x.wrong = append(x.wrong, t.Index)
		return
	}
	panic(failure{placeOf(t, e), err})
}

// same makes types equal; otherwise the rule of a node fails.
func (x *visitor) same(t *exprs.Tree, e scene, l ...*term) {
	for _, other := range l[1:] {
		if !unify(l[0], other) {
			x.fail(t, e, api.ErrType)
		}
	}
}

// visit is the type of a node.
func (x *visitor) visit(t *exprs.Tree, e scene) *term {
	x.count++
	if x.count > api.MaxEdges {
		panic(failure{placeOf(t, e), api.ErrFuel})
	}
	own := x.ruled(t, e)
	if x.fixed != nil {
		x.same(t, e, x.fixed[t.Index], own)
		return x.fixed[t.Index]
	}
	if !own.fits() {
		panic(failure{placeOf(t, e), api.ErrLarge})
	}
	if e.place == api.None && x.types != nil {
		x.types[t.Index] = own
	}
	return own
}

// all visits operands.
func (x *visitor) all(l []*exprs.Tree, e scene) []*term {
	var out []*term
	for _, k := range l {
		out = append(out, x.visit(k, e))
	}
	return out
}

// ruled is the type of a node by its rule.
func (x *visitor) ruled(t *exprs.Tree, e scene) *term {
	switch t.Kind {
	case api.ExprNumber:
		return of(api.TypeInt)
	case api.ExprString:
		return of(api.TypeString)
	case api.ExprName:
		return x.named(t, e)
	case api.ExprOld:
		b, _ := find(e.names, "@")
		return b.is
	case api.ExprApply:
		return x.applied(t, e)
	case api.ExprTuple:
		return of(api.TypeTuple, x.all(t.Kids, e)...)
	case api.ExprSet:
		item := fresh()
		x.same(t, e, append([]*term{item}, x.all(t.Kids, e)...)...)
		return of(api.TypeSet, item)
	case api.ExprFilter, api.ExprMap, api.ExprAll, api.ExprSome, api.ExprChoose, api.ExprFunc, api.ExprAny, api.ExprExists:
		return x.bounded(t, e)
	case api.ExprCall:
		return x.called(t, e)
	case api.ExprFuncs:
		from, to := fresh(), fresh()
		l := x.all(t.Kids, e)
		x.same(t, e, l[0], of(api.TypeSet, from))
		x.same(t, e, l[1], of(api.TypeSet, to))
		return of(api.TypeSet, of(api.TypeFunc, from, to))
	case api.ExprRecord:
		return record(t.Names, x.all(t.Kids, e))
	case api.ExprRecords:
		var items []*term
		for _, set := range x.all(t.Kids, e) {
			item := fresh()
			x.same(t, e, set, of(api.TypeSet, item))
			items = append(items, item)
		}
		return of(api.TypeSet, record(t.Names, items))
	case api.ExprField:
		return x.field(t, e)
	case api.ExprExcept:
		return x.except(t, e)
	}
	return x.structured(t, e)
}

// structured is the type of what chooses, or goes on.
func (x *visitor) structured(t *exprs.Tree, e scene) *term {
	truth := of(api.TypeBool)
	switch t.Kind {
	case api.ExprIf:
		l := x.all(t.Kids, e)
		x.same(t, e, l[0], truth)
		x.same(t, e, l[1], l[2])
		return l[1]
	case api.ExprCase:
		out := fresh()
		for i, k := range x.all(t.Kids, e) {
			if i%2 == 0 && i+1 < len(t.Kids) {
				x.same(t, e, k, truth)
			} else {
				x.same(t, e, out, k)
			}
		}
		return out
	case api.ExprLet:
		inner := scene{&binding{name: t.Names[0], let: t, names: e.names, next: e.names}, e.place}
		return x.visit(t.Kids[1], inner)
	case api.ExprLambda:
		x.fail(t, e, api.ErrRefused)
		return fresh()
	}
	x.same(t, e, x.all(t.Kids, e)[0], truth)
	return truth
}

// record is a record type; its names ascend.
func record(names []string, items []*term) *term {
	out := &term{kind: api.TypeRecord, names: slices.Sorted(slices.Values(names))}
	for _, name := range out.names {
		out.parts = append(out.parts, items[slices.Index(names, name)])
	}
	return out
}

// bounded is the type of a node that binds names.
func (x *visitor) bounded(t *exprs.Tree, e scene) *term {
	truth := of(api.TypeBool)
	body := t.Kids[len(t.Kids)-1]
	inner := e
	var names []*term
	for i, name := range t.Names {
		own := fresh()
		if t.Kind != api.ExprAny && t.Kind != api.ExprExists {
			x.same(t, e, x.visit(t.Kids[i], e), of(api.TypeSet, own))
		}
		names = append(names, own)
		inner = inner.with(name, own)
	}
	last := x.visit(body, inner)
	switch t.Kind {
	case api.ExprMap:
		return of(api.TypeSet, last)
	case api.ExprFunc:
		return of(api.TypeFunc, tupled(names), last)
	}
	x.same(t, e, last, truth)
	switch t.Kind {
	case api.ExprFilter:
		return of(api.TypeSet, names[0])
	case api.ExprChoose:
		return names[0]
	}
	return truth
}

// tupled is one type, or the tuple of several.
func tupled(l []*term) *term {
	if len(l) == 1 {
		return l[0]
	}
	return of(api.TypeTuple, l...)
}

// itemOf is the type of the item of what is known to be a tuple, or a record, by an index that is written; nil if it is not known.
func itemOf(f *term, index *exprs.Tree, records bool) *term {
	f = f.last()
	if f.kind == api.TypeTuple && index.Kind == api.ExprNumber && index.N >= 1 && index.N <= len(f.parts) {
		return f.parts[index.N-1]
	}
	if i := slices.Index(f.names, index.Text); records && f.kind == api.TypeRecord && index.Kind == api.ExprString && i >= 0 {
		return f.parts[i]
	}
	return nil
}

func (x *visitor) called(t *exprs.Tree, e scene) *term {
	l := x.all(t.Kids, e)
	if len(l) == 2 {
		if item := itemOf(l[0], t.Kids[1], false); item != nil {
			return item
		}
	}
	out := fresh()
	x.same(t, e, l[0], of(api.TypeFunc, tupled(l[1:]), out))
	return out
}

func (x *visitor) field(t *exprs.Tree, e scene) *term {
	r := x.visit(t.Kids[0], e).last()
	i := slices.Index(r.names, t.Text)
	if r.kind != api.TypeRecord || i < 0 {
		x.fail(t, e, api.ErrRefused)
		return fresh()
	}
	return r.parts[i]
}

func (x *visitor) except(t *exprs.Tree, e scene) *term {
	f := x.visit(t.Kids[0], e)
	key := x.visit(t.Kids[1], e)
	item := itemOf(f, t.Kids[1], true)
	if item == nil {
		item = fresh()
		x.same(t, e, f, of(api.TypeFunc, key, item))
	}
	x.same(t, e, item, x.visit(t.Kids[2], e.with("@", item)))
	return f
}

// find finds what a name is bound to.
func find(b *binding, name string) (*binding, bool) {
	for ; b != nil; b = b.next {
		if b.name == name {
			return b, true
		}
	}
	return nil, false
}

// named is the type of a name.
func (x *visitor) named(t *exprs.Tree, e scene) *term {
	if b, is := find(e.names, t.Text); is && b.let == nil {
		return b.is
	} else if !is && x.given[t.Text] != nil {
		return x.given[t.Text]
	}
	if own := x.defined(t, e, nil); own != nil {
		return own
	}
	switch t.Text {
	case "TRUE", "FALSE":
		return of(api.TypeBool)
	case "BOOLEAN":
		return of(api.TypeSet, of(api.TypeBool))
	case "STRING":
		return of(api.TypeSet, of(api.TypeString))
	case "Nat", "Int":
		return of(api.TypeSet, of(api.TypeInt))
	}
	x.fail(t, e, api.ErrMissing)
	return fresh()
}

// defined is the type of the use of a definition, or nil if the name is none.
func (x *visitor) defined(t *exprs.Tree, e scene, operands []*term) *term {
	inner := scene{place: placeOf(t, e)}
	params, arities, recursive := []string(nil), []int(nil), false
	var body *exprs.Tree
	if b, is := find(e.names, t.Text); is {
		params, body, recursive = b.let.Names[1:], b.let.Kids[0], b.let.N == 1
		inner.names = b.names
	} else if d, is := x.defs[t.Text]; is {
		params, arities, recursive, body = d.Params, d.Arities, d.Recursive, exprs.Grow(d.Body)
	} else {
		return nil
	}
	if len(params) != len(operands) {
		x.fail(t, e, api.ErrArity)
		return fresh()
	}
	if recursive || slices.ContainsFunc(arities, func(n int) bool { return n != 0 }) {
		x.fail(t, e, api.ErrRefused)
		return fresh()
	}
	for i, name := range params {
		inner = inner.with(name, operands[i])
	}
	return x.visit(body, inner)
}

// applied is the type of an operator with operands.
func (x *visitor) applied(t *exprs.Tree, e scene) *term {
	l := x.all(t.Kids, e)
	if _, err := tree.OperatorOf(t.Text); err == api.OK {
		return x.operator(t, e, l)
	}
	b, bound := find(e.names, t.Text)
	if bound && b.let == nil || !bound && x.given[t.Text] != nil {
		x.fail(t, e, api.ErrMissing)
		return fresh()
	}
	if own := x.defined(t, e, l); own != nil {
		return own
	}
	if t.Text != "Seq" {
		x.fail(t, e, api.ErrMissing)
		return fresh()
	}
	if len(l) != 1 {
		x.fail(t, e, api.ErrArity)
		return fresh()
	}
	item := fresh()
	x.same(t, e, l[0], of(api.TypeSet, item))
	return of(api.TypeSet, of(api.TypeFunc, of(api.TypeInt), item))
}

// operator is the type of an operator of chapter 2.
func (x *visitor) operator(t *exprs.Tree, e scene, l []*term) *term {
	truth, number := of(api.TypeBool), of(api.TypeInt)
	set := of(api.TypeSet, fresh())
	all := func(own *term) *term {
		x.same(t, e, append([]*term{own}, l...)...)
		return own
	}
	switch t.Text {
	case `/\`, `\/`, "=>", "<=>", "~", "[]", "<>", "~>", "ENABLED", `\cdot`:
		return all(truth)
	case "UNCHANGED":
		return truth
	case "=", "#":
		all(l[0])
		return truth
	case `\in`, `\notin`:
		x.same(t, e, l[1], of(api.TypeSet, l[0]))
		return truth
	case `\subseteq`:
		all(set)
		return truth
	case `\cup`, `\cap`, `\`:
		return all(set)
	case "SUBSET":
		return of(api.TypeSet, all(set))
	case "UNION":
		x.same(t, e, l[0], of(api.TypeSet, set))
		return set
	case "+", "-", "*", `\div`, "%", "^", "-.":
		return all(number)
	case "..":
		all(number)
		return of(api.TypeSet, number)
	case "<", "<=", ">", ">=":
		all(number)
		return truth
	case `\o`:
		return all(of(api.TypeFunc, number, fresh()))
	case "'":
		return l[0]
	}
	return x.collection(t, e, l)
}

// collection is the type of DOMAIN and \X; other operators have no rule.
func (x *visitor) collection(t *exprs.Tree, e scene, l []*term) *term {
	switch t.Text {
	case "DOMAIN":
		switch l[0].last().kind {
		case api.TypeTuple:
			return of(api.TypeSet, of(api.TypeInt))
		case api.TypeRecord:
			return of(api.TypeSet, of(api.TypeString))
		}
		from := fresh()
		x.same(t, e, l[0], of(api.TypeFunc, from, fresh()))
		return of(api.TypeSet, from)
	case `\X`:
		var items []*term
		for _, s := range l {
			item := fresh()
			x.same(t, e, s, of(api.TypeSet, item))
			items = append(items, item)
		}
		return of(api.TypeSet, of(api.TypeTuple, items...))
	}
	x.fail(t, e, api.ErrMissing)
	return fresh()
}
