package types

import (
	"slices"

	"stutter/api"
)

// term is a type that is being inferred: one that became another one refers to it. A rigid variable stands for itself alone.
type term struct {
	kind, n int
	names   []string
	parts   []*term
	rigid   bool
	is      *term
}

func fresh() *term { return &term{kind: api.TypeVar} }

func of(kind int, parts ...*term) *term { return &term{kind: kind, parts: parts} }

// last is what a term became.
func (t *term) last() *term {
	for t.is != nil {
		t = t.is
	}
	return t
}

// occurs says whether a term is within another one.
func occurs(v, t *term, seen map[*term]bool) bool {
	t = t.last()
	if t == v {
		return true
	}
	if seen[t] {
		return false
	}
	seen[t] = true
	return slices.ContainsFunc(t.parts, func(p *term) bool { return occurs(v, p, seen) })
}

// unify makes two terms equal, if it can.
func unify(a, b *term) bool {
	a, b = a.last(), b.last()
	if a == b {
		return true
	}
	if a.kind != api.TypeVar || a.rigid {
		a, b = b, a
	}
	if a.kind == api.TypeVar && !a.rigid {
		if occurs(a, b, map[*term]bool{}) {
			return false
		}
		a.is = b
		return true
	}
	if a.kind != b.kind || a.rigid != b.rigid || a.n != b.n || len(a.parts) != len(b.parts) || !slices.Equal(a.names, b.names) {
		return false
	}
	for i := range a.parts {
		if !unify(a.parts[i], b.parts[i]) {
			return false
		}
	}
	if a.last() != b.last() && !a.rigid {
		a.is = b
	}
	return true
}

// grown is the term of a valid type; variables are those of a map.
func grown(t api.Type, vars map[int]*term, rigid bool) *term {
	if t.Kind == api.TypeVar {
		if vars[t.N] == nil {
			vars[t.N] = &term{kind: api.TypeVar, rigid: rigid}
			if rigid {
				vars[t.N].n = t.N
			}
		}
		return vars[t.N]
	}
	out := &term{kind: t.Kind, names: t.Names}
	for _, p := range t.Parts {
		out.parts = append(out.parts, grown(p, vars, rigid))
	}
	return out
}

// fits says whether a term is small enough to be shown.
func (t *term) fits() bool {
	left := api.MaxTypeNodes
	return t.measure(1, &left)
}

func (t *term) measure(depth int, left *int) bool {
	*left--
	if *left < 0 || depth > api.MaxTypeDepth {
		return false
	}
	return !slices.ContainsFunc(t.last().parts, func(p *term) bool { return !p.measure(depth+1, left) })
}

// shower numbers variables in the order in which they are shown.
type shower map[*term]int

// show is the type of a term that fits.
func (s shower) show(t *term) api.Type {
	t = t.last()
	if t.kind == api.TypeVar {
		n, is := s[t]
		if !is {
			n = len(s)
			s[t] = n
		}
		return api.Type{Kind: api.TypeVar, N: n}
	}
	out := api.Type{Kind: t.kind, Names: slices.Clone(t.names)}
	for _, p := range t.parts {
		out.Parts = append(out.Parts, s.show(p))
	}
	return out
}
