package translate

import (
	"maps"
	"slices"
	"strconv"

	"stutter/api"
	"stutter/exprs"
)

// freeIn are the names that stand free in an expression, ascending; it may have more nodes than are permitted.
func freeIn(e api.Expr) []string {
	found := map[string]bool{}
	var see func(t *exprs.Tree, bound []string)
	see = func(t *exprs.Tree, bound []string) {
		if (t.Kind == api.ExprName || t.Kind == api.ExprApply) && !slices.Contains(bound, t.Text) {
			found[t.Text] = true
		}
		for i, k := range t.Kids {
			see(k, slices.Concat(bound, t.Binds(i)))
		}
	}
	see(exprs.Grow(e), nil)
	return slices.Sorted(maps.Keys(found))
}

// names are all names that stand anywhere in a program, and those of its specification.
func (s *system) names() map[string]bool {
	out := map[string]bool{"ProcSet": true, "self": true, none: true}
	add := func(l ...string) {
		for _, n := range l {
			out[n] = true
		}
	}
	add(s.vars...)
	for _, b := range s.Constants {
		add(b.Name)
	}
	for _, d := range s.Defs {
		add(d.Name)
		add(d.Params...)
	}
	for _, p := range s.parts {
		add(p.labels...)
		eachStatement(p.Body, func(x api.PlusStmt) { add(x.Name) })
	}
	for _, e := range s.expressions() {
		for _, n := range e {
			add(n.Text)
			add(n.Names...)
		}
	}
	return out
}

// fresh is a name that means nothing yet.
func (s *system) fresh(begin string) string {
	for i := 1; ; i++ {
		if n := begin + "_" + strconv.Itoa(i); !s.given[n] {
			s.given[n] = true
			return n
		}
	}
}
