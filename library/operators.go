package library

import (
	"slices"

	"stutter/api"
	"stutter/machine"
	"stutter/value"
	"stutter/values"
)

// operation is what an operator does with arguments of the right kinds.
type operation = func(a []api.Value) (api.Value, api.Errno)

func arithmetic(sign string) operation {
	return func(a []api.Value) (api.Value, api.Errno) {
		second := 0
		if len(a) > 1 {
			second = a[1].N
		}
		n, err := machine.Compute(sign, a[0].N, second)
		return values.Int(n), err
	}
}

func comparison(is func(c int) bool) operation {
	return func(a []api.Value) (api.Value, api.Errno) { return values.Bool(is(a[0].N - a[1].N)), api.OK }
}

func interval(a []api.Value) (api.Value, api.Errno) {
	if a[1].N-a[0].N >= api.MaxMembers {
		return api.Value{}, api.ErrLarge
	}
	out := api.Value{Kind: api.ValueSet}
	for n := a[0].N; n <= a[1].N; n++ {
		out.Items = append(out.Items, values.Int(n))
	}
	return out, api.OK
}

// count is how many members or items there are.
func count(a []api.Value) (api.Value, api.Errno) { return values.Int(len(a[0].Items)), api.OK }

func head(a []api.Value) (api.Value, api.Errno) {
	if len(a[0].Items) == 0 {
		return api.Value{}, api.ErrEmpty
	}
	return a[0].Items[0], api.OK
}

func tail(a []api.Value) (api.Value, api.Errno) {
	if len(a[0].Items) == 0 {
		return api.Value{}, api.ErrEmpty
	}
	return values.Tuple(a[0].Items[1:]...), api.OK
}

func appended(a []api.Value) (api.Value, api.Errno) {
	return values.Tuple(slices.Concat(a[0].Items, a[1:])...), api.OK
}

func concatenated(a []api.Value) (api.Value, api.Errno) {
	return values.Tuple(slices.Concat(a[0].Items, a[1].Items)...), api.OK
}

func subSeq(a []api.Value) (api.Value, api.Errno) {
	from, to := a[1].N, a[2].N
	if to < from {
		return values.Tuple(), api.OK
	}
	if from < 1 || to > len(a[0].Items) {
		return api.Value{}, api.ErrRange
	}
	return values.Tuple(a[0].Items[from-1 : to]...), api.OK
}

func isFiniteSet(a []api.Value) (api.Value, api.Errno) {
	return values.Bool(a[0].Kind == api.ValueSet), api.OK
}

func emptyBag([]api.Value) (api.Value, api.Errno) { return values.Tuple(), api.OK }

func setToBag(a []api.Value) (api.Value, api.Errno) {
	out := api.Value{Kind: api.ValueFunc, Keys: a[0].Items}
	for range out.Keys {
		out.Items = append(out.Items, values.Int(1))
	}
	return out, api.OK
}

func bagToSet(a []api.Value) (api.Value, api.Errno) { return values.Set(a[0].Keys...), api.OK }

// copies is how often a value is in a bag.
func copies(v, bag api.Value) int {
	if at, is := values.Find(bag.Keys, v); is {
		return bag.Items[at].N
	}
	return 0
}

func bagIn(a []api.Value) (api.Value, api.Errno) { return values.Bool(copies(a[0], a[1]) > 0), api.OK }

func copiesIn(a []api.Value) (api.Value, api.Errno) { return values.Int(copies(a[0], a[1])), api.OK }

// bagOver is the bag in which each key is as often as is said, if at all.
func bagOver(keys []api.Value, often func(k api.Value) int) (api.Value, api.Errno) {
	out := api.Value{Kind: api.ValueFunc}
	for _, k := range values.Set(keys...).Items {
		if n := often(k); n > 0 {
			out.Keys, out.Items = append(out.Keys, k), append(out.Items, values.Int(n))
		}
	}
	return out, api.OK
}

func bagSum(a []api.Value) (api.Value, api.Errno) {
	return bagOver(slices.Concat(a[0].Keys, a[1].Keys), func(k api.Value) int { return copies(k, a[0]) + copies(k, a[1]) })
}

func bagRest(a []api.Value) (api.Value, api.Errno) {
	return bagOver(a[0].Keys, func(k api.Value) int { return copies(k, a[0]) - copies(k, a[1]) })
}

func bagWithin(a []api.Value) (api.Value, api.Errno) {
	more := func(k api.Value) bool { return copies(k, a[0]) > copies(k, a[1]) }
	return values.Bool(!slices.ContainsFunc(a[0].Keys, more)), api.OK
}

func bagCount(a []api.Value) (api.Value, api.Errno) {
	n := 0
	for _, x := range a[0].Items {
		n += x.N
	}
	return values.Int(n), api.OK
}

func single(a []api.Value) (api.Value, api.Errno) {
	return api.Value{Kind: api.ValueFunc, Keys: a[:1], Items: a[1:]}, api.OK
}

func over(a []api.Value) (api.Value, api.Errno) {
	keys, items := slices.Clone(a[0].Keys), slices.Clone(a[0].Items)
	for i, k := range a[1].Keys {
		if !values.Has(a[0].Keys, k) {
			keys, items = append(keys, k), append(items, a[1].Items[i])
		}
	}
	f, _ := values.Func(keys, items)
	return f, api.OK
}

func permutations(a []api.Value) (api.Value, api.Errno) {
	if len(a[0].Items) > api.MaxArranged {
		return api.Value{}, api.ErrLarge
	}
	var all []api.Value
	var arrange func(done, left []api.Value)
	arrange = func(done, left []api.Value) {
		if len(left) == 0 {
			all = append(all, api.Value{Kind: api.ValueFunc, Keys: a[0].Items, Items: done})
		}
		for i, v := range left {
			arrange(slices.Concat(done, []api.Value{v}), slices.Concat(left[:i], left[i+1:]))
		}
	}
	arrange(nil, a[0].Items)
	return values.Set(all...), api.OK
}

func toString(a []api.Value) (api.Value, api.Errno) {
	s, err := value.FormatValue(a[0])
	if err == api.OK && len(s) > api.MaxChars {
		err = api.ErrLarge
	}
	return values.String(s), err
}

func assert(a []api.Value) (api.Value, api.Errno) {
	if a[0].Kind != api.ValueBool || a[1].Kind != api.ValueString {
		return api.Value{}, api.ErrType
	}
	if a[0].N == 0 {
		return api.Value{}, api.ErrBroken
	}
	return values.Bool(true), api.OK
}
