package eval

import (
	"slices"
	"strconv"
	"strings"

	"stutter/api"
	"stutter/exprs"
	"stutter/value"
	"stutter/values"
	"stutter/words"
)

// The most members of what is written with its members, and the most keys of a map.
const (
	mostMembers = api.MaxOperands
	mostKeys    = api.MaxOperands / 2
)

// ExprOf returns an expression that has a value.
func ExprOf(v api.Value) (api.Expr, api.Errno) {
	if err := value.CheckValue(v); err != api.OK {
		return nil, err
	}
	if isRefused(v) {
		return nil, api.ErrRefused
	}
	if isWide(v) {
		return nil, api.ErrLarge
	}
	e := written(v)
	if len(e) > api.MaxNodes {
		return nil, api.ErrLarge
	}
	return e, api.OK
}

func shapeOf(v api.Value) int {
	shape, _ := value.ShapeOf(v)
	return shape
}

// within calls see for a value and all within it, until it returns true.
func within(v api.Value, see func(api.Value) bool) bool {
	inner := func(x api.Value) bool { return within(x, see) }
	return see(v) || slices.ContainsFunc(v.Keys, inner) || slices.ContainsFunc(v.Items, inner)
}

// isRefused says whether something in a value cannot be written.
func isRefused(v api.Value) bool {
	return within(v, func(x api.Value) bool {
		switch {
		case x.Kind == api.ValueString:
			return strings.ContainsAny(x.S, `"\`)
		case x.Kind == api.ValueModel:
			return !words.IsName(x.S)
		}
		switch shapeOf(x) {
		case api.ShapeRecord:
			return slices.ContainsFunc(x.Keys, func(k api.Value) bool { return !words.IsName(k.S) })
		case api.ShapeMap:
			return hasUnlikeKeys(x)
		}
		return false
	})
}

// hasUnlikeKeys says whether keys are of unlike kinds, so that they cannot be compared.
func hasUnlikeKeys(f api.Value) bool {
	kind := api.None
	for _, k := range f.Keys {
		if k.Kind == api.ValueModel {
			continue
		}
		if kind != api.None && kind != k.Kind {
			return true
		}
		kind = k.Kind
	}
	return false
}

// isWide says whether something in a value has too many parts to be written.
func isWide(v api.Value) bool {
	return within(v, func(x api.Value) bool {
		return len(x.Items) > mostMembers || shapeOf(x) == api.ShapeMap && len(x.Keys) > mostKeys
	})
}

// written is the expression of a value that can be written.
func written(v api.Value) api.Expr {
	switch v.Kind {
	case api.ValueBool:
		return exprs.Name(strings.ToUpper(strconv.FormatBool(v.N == 1)))
	case api.ValueInt:
		number := api.Expr{{Kind: api.ExprNumber, N: max(v.N, -v.N)}}
		if v.N < 0 {
			return exprs.Apply("-.", number)
		}
		return number
	case api.ValueString:
		return api.Expr{{Kind: api.ExprString, Text: v.S}}
	case api.ValueModel:
		return exprs.Name(v.S)
	case api.ValueSet:
		return exprs.Make(api.Node{Kind: api.ExprSet}, all(v.Items)...)
	}
	switch shapeOf(v) {
	case api.ShapeTuple:
		return exprs.Make(api.Node{Kind: api.ExprTuple}, all(v.Items)...)
	case api.ShapeRecord:
		n := api.Node{Kind: api.ExprRecord}
		for _, k := range v.Keys {
			n.Names = append(n.Names, k.S)
		}
		return exprs.Make(n, all(v.Items)...)
	}
	return byCases(v)
}

// all are the expressions of values.
func all(l []api.Value) []api.Expr {
	var out []api.Expr
	for _, v := range l {
		out = append(out, written(v))
	}
	return out
}

// byCases is a map as a function by cases.
func byCases(f api.Value) api.Expr {
	name := "k"
	for i := 1; within(f, func(x api.Value) bool { return x.Kind == api.ValueModel && x.S == name }); i++ {
		name = "k_" + strconv.Itoa(i)
	}
	var arms []api.Expr
	for i, k := range f.Keys {
		arms = append(arms, exprs.Apply("=", exprs.Name(name), written(k)), written(f.Items[i]))
	}
	domain := written(values.Set(f.Keys...))
	return exprs.Make(api.Node{Kind: api.ExprFunc, Names: []string{name}}, domain, exprs.Make(api.Node{Kind: api.ExprCase}, arms...))
}
