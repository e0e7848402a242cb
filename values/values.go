// Package values makes, compares and measures values without checking them; package value does so.
package values

import (
	"cmp"
	"slices"
	"sort"

	"stutter/api"
)

// Compare orders values: by kinds, then by what they have.
func Compare(a, b api.Value) int {
	if c := cmp.Or(cmp.Compare(a.Kind, b.Kind), cmp.Compare(a.N, b.N), cmp.Compare(a.S, b.S)); c != 0 {
		return c
	}
	if c := slices.CompareFunc(a.Keys, b.Keys, Compare); c != 0 {
		return c
	}
	return slices.CompareFunc(a.Items, b.Items, Compare)
}

// Same says whether two values are the same.
func Same(a, b api.Value) bool { return Compare(a, b) == 0 }

// SameState says whether two states are the same.
func SameState(a, b api.State) bool { return slices.EqualFunc(a, b, Same) }

// CompareStates orders states, value by value.
func CompareStates(a, b api.State) int { return slices.CompareFunc(a, b, Compare) }

// Clone returns a value that shares no memory.
func Clone(v api.Value) api.Value {
	v.Keys, v.Items = CloneAll(v.Keys), CloneAll(v.Items)
	return v
}

// CloneAll returns values that share no memory.
func CloneAll[L ~[]api.Value](l L) L {
	if len(l) == 0 {
		return nil
	}
	out := make(L, len(l))
	for i, v := range l {
		out[i] = Clone(v)
	}
	return out
}

// Fits says whether a value is small enough; it may have any shape, and be within itself.
func Fits(v api.Value) bool {
	left := api.MaxValueNodes
	return fits(v, 1, &left)
}

func fits(v api.Value, depth int, left *int) bool {
	*left--
	if *left < 0 || depth > api.MaxValueDepth {
		return false
	}
	for _, l := range [2][]api.Value{v.Keys, v.Items} {
		for _, x := range l {
			if !fits(x, depth+1, left) {
				return false
			}
		}
	}
	return true
}

// Bool is a truth value.
func Bool(b bool) api.Value {
	if b {
		return api.Value{Kind: api.ValueBool, N: 1}
	}
	return api.Value{Kind: api.ValueBool}
}

// Int is a number.
func Int(n int) api.Value { return api.Value{Kind: api.ValueInt, N: n} }

// String is a string.
func String(s string) api.Value { return api.Value{Kind: api.ValueString, S: s} }

// Model is a model value.
func Model(name string) api.Value { return api.Value{Kind: api.ValueModel, S: name} }

// Set is the set of values in any order; it keeps them.
func Set(l ...api.Value) api.Value {
	l = slices.Clone(l)
	slices.SortFunc(l, Compare)
	return api.Value{Kind: api.ValueSet, Items: slices.CompactFunc(l, Same)}
}

// Tuple is the tuple of values; it keeps them.
func Tuple(l ...api.Value) api.Value {
	f := api.Value{Kind: api.ValueFunc}
	for i, v := range l {
		f.Keys, f.Items = append(f.Keys, Int(i+1)), append(f.Items, v)
	}
	return f
}

// pairs are keys with items, which are sorted together.
type pairs struct{ keys, items []api.Value }

func (p pairs) Len() int           { return len(p.keys) }
func (p pairs) Less(i, j int) bool { return Compare(p.keys[i], p.keys[j]) < 0 }
func (p pairs) Swap(i, j int) {
	p.keys[i], p.keys[j] = p.keys[j], p.keys[i]
	p.items[i], p.items[j] = p.items[j], p.items[i]
}

// Func is the function with keys in any order; false if a key is there twice with unlike items.
func Func(keys, items []api.Value) (api.Value, bool) {
	p := pairs{slices.Clone(keys), slices.Clone(items)}
	sort.Stable(p)
	f := api.Value{Kind: api.ValueFunc}
	for i, k := range p.keys {
		if n := len(f.Keys); n > 0 && Same(f.Keys[n-1], k) {
			if !Same(f.Items[n-1], p.items[i]) {
				return api.Value{}, false
			}
			continue
		}
		f.Keys, f.Items = append(f.Keys, k), append(f.Items, p.items[i])
	}
	return f, true
}

// Find is where a value stands in an ascending list, and whether it does.
func Find(l []api.Value, v api.Value) (int, bool) { return slices.BinarySearchFunc(l, v, Compare) }

// Has says whether an ascending list has a value.
func Has(l []api.Value, v api.Value) bool {
	_, is := Find(l, v)
	return is
}

// IsTuple says whether a value is a function on the numbers from 1 on.
func IsTuple(v api.Value) bool {
	for i, k := range v.Keys {
		if k.Kind != api.ValueInt || k.N != i+1 {
			return false
		}
	}
	return v.Kind == api.ValueFunc
}

// Subset says whether all values of an ascending list are in another one.
func Subset(a, b []api.Value) bool {
	return !slices.ContainsFunc(a, func(v api.Value) bool { return !Has(b, v) })
}
