package lazy

import (
	"slices"

	"stutter/api"
	"stutter/values"
)

// set is a valid set; what was counted and listed is kept. It panics with an api.Errno.
type set struct {
	l      api.Lazy
	counts map[int]int
	lists  map[int][]api.Value
	joined map[int][]api.Value
}

func setOf(l api.Lazy) *set {
	return &set{l, map[int]int{}, map[int][]api.Value{}, map[int][]api.Value{}}
}

// tried runs what may panic with an error.
func tried(run func()) (err api.Errno) {
	defer func() {
		if r := recover(); r != nil {
			is := false
			if err, is = r.(api.Errno); !is { // a function that the document lists does not panic
				err = api.ErrForm
			}
		}
	}()
	run()
	return api.OK
}

// asked is what a method says of the root of a set, or the error with which it ends.
func asked[T any](s *set, method func(s *set, root int) T) (out T, err api.Errno) {
	err = tried(func() { out = method(s, len(s.l)-1) })
	return out, err
}

// isUnbounded says whether a node is unbounded, whatever its operands contain.
func (s *set) isUnbounded(node int) bool {
	n := s.l[node]
	switch n.Kind {
	case api.LazyNaturals, api.LazyIntegers, api.LazyStrings, api.LazySequences:
		return true
	case api.LazyBoth:
		return s.isUnbounded(n.Args[0]) && s.isUnbounded(n.Args[1])
	case api.LazyWithout:
		return s.isUnbounded(n.Args[0])
	}
	return slices.ContainsFunc(n.Args, s.isUnbounded)
}

// count is how many members a node has, if it is counted.
func (s *set) count(node int) int {
	if c, is := s.counts[node]; is {
		return c
	}
	if s.isUnbounded(node) {
		panic(api.ErrUnbounded)
	}
	n := s.l[node]
	c := 0
	switch n.Kind {
	case api.LazyListed:
		c = len(n.Members)
	case api.LazyInterval:
		c = max(0, n.High-n.Low+1)
	case api.LazySubsets:
		c = power(2, s.count(n.Args[0]))
	case api.LazyFunctions:
		exponent := s.count(n.Args[0])
		c = power(s.count(n.Args[1]), exponent)
	case api.LazyRecords, api.LazyProduct:
		c = s.product(n.Args)
	default:
		c = len(s.combined(node))
	}
	if c > api.MaxLazyCount {
		panic(api.ErrLarge)
	}
	s.counts[node] = c
	return c
}

// power is a number to the power of another one, as far as it is counted.
func power(base, exponent int) int {
	if base <= 1 && exponent > 0 {
		return base
	}
	out := 1
	for range exponent {
		out *= base
		if out > api.MaxLazyCount {
			return out
		}
	}
	return out
}

// product is how many choices operands have.
func (s *set) product(args []int) int {
	out, none := 1, false
	for _, a := range args {
		c := s.count(a)
		none = none || c == 0
		out = min(out*c, api.MaxLazyCount+1)
	}
	if none {
		return 0
	}
	return out
}

// list is the members of a node, ascending.
func (s *set) list(node int) []api.Value {
	if l, is := s.lists[node]; is {
		return l
	}
	if s.count(node) > api.MaxMembers {
		panic(api.ErrLarge)
	}
	var out []api.Value
	for i := range s.count(node) {
		out = append(out, s.member(node, i))
	}
	s.lists[node] = out
	return out
}

// combined is the members of a union, an intersection or a difference.
func (s *set) combined(node int) []api.Value {
	if l, is := s.joined[node]; is {
		return l
	}
	l := s.combine(node)
	s.joined[node] = l
	return l
}

func (s *set) combine(node int) []api.Value {
	n := s.l[node]
	first, second := n.Args[0], n.Args[1]
	if n.Kind == api.LazyUnion {
		return values.Set(slices.Concat(s.list(first), s.list(second))...).Items
	}
	if n.Kind == api.LazyBoth && s.isUnbounded(first) {
		first, second = second, first
	}
	var out []api.Value
	for _, v := range s.list(first) {
		if s.has(second, v) == (n.Kind == api.LazyBoth) {
			out = append(out, v)
		}
	}
	return out
}

// has says whether a value is a member of a node.
func (s *set) has(node int, v api.Value) bool {
	n := s.l[node]
	all := func(l []api.Value, arg int) bool {
		return !slices.ContainsFunc(l, func(x api.Value) bool { return !s.has(arg, x) })
	}
	switch n.Kind {
	case api.LazyListed:
		return values.Has(n.Members, v)
	case api.LazyInterval:
		return v.Kind == api.ValueInt && v.N >= n.Low && v.N <= n.High
	case api.LazyNaturals:
		return v.Kind == api.ValueInt && v.N >= 0
	case api.LazyIntegers:
		return v.Kind == api.ValueInt
	case api.LazyStrings:
		return v.Kind == api.ValueString
	case api.LazySequences:
		return values.IsTuple(v) && all(v.Items, n.Args[0])
	case api.LazySubsets:
		return v.Kind == api.ValueSet && all(v.Items, n.Args[0])
	case api.LazyFunctions:
		return v.Kind == api.ValueFunc && s.isDomain(n.Args[0], v.Keys) && all(v.Items, n.Args[1])
	case api.LazyRecords, api.LazyProduct:
		return s.hasEach(n, v)
	case api.LazyUnion:
		return s.has(n.Args[0], v) || s.has(n.Args[1], v)
	case api.LazyBoth:
		return s.has(n.Args[0], v) && s.has(n.Args[1], v)
	}
	return s.has(n.Args[0], v) && !s.has(n.Args[1], v)
}

// isDomain says whether keys are all members of a node; one that is not counted is no domain.
func (s *set) isDomain(node int, keys []api.Value) bool {
	count := 0
	if tried(func() { count = s.count(node) }) != api.OK || count != len(keys) {
		return false
	}
	return !slices.ContainsFunc(keys, func(k api.Value) bool { return !s.has(node, k) })
}

// keysOf are the keys of records or tuples.
func keysOf(n api.LazyNode) []api.Value {
	var out []api.Value
	for i := range n.Args {
		if n.Kind == api.LazyRecords {
			out = append(out, values.String(n.Names[i]))
		} else {
			out = append(out, values.Int(i+1))
		}
	}
	return out
}

func (s *set) hasEach(n api.LazyNode, v api.Value) bool {
	if v.Kind != api.ValueFunc || !slices.EqualFunc(v.Keys, keysOf(n), values.Same) {
		return false
	}
	for i, a := range n.Args {
		if !s.has(a, v.Items[i]) {
			return false
		}
	}
	return true
}

// fitted is a value that must be small enough.
func fitted(v api.Value) api.Value {
	if !values.Fits(v) {
		panic(api.ErrLarge)
	}
	return v
}

// member is the member of a node with a number; there is one.
func (s *set) member(node, at int) api.Value {
	n := s.l[node]
	switch n.Kind {
	case api.LazyListed:
		return values.Clone(n.Members[at])
	case api.LazyInterval:
		return values.Int(n.Low + at)
	case api.LazySubsets:
		return s.subset(n.Args[0], at)
	case api.LazyFunctions:
		many := s.count(n.Args[0])
		if many > api.MaxValueNodes {
			panic(api.ErrLarge)
		}
		var keys []api.Value
		for i := range many {
			keys = append(keys, s.member(n.Args[0], i))
		}
		return s.function(keys, slices.Repeat(n.Args[1:], many), at)
	case api.LazyRecords, api.LazyProduct:
		return s.function(keysOf(n), n.Args, at)
	}
	return values.Clone(s.combined(node)[at])
}

// subset is the set of members of a node with a number: {} first, then those that begin with the least member.
func (s *set) subset(node, at int) api.Value {
	out := api.Value{Kind: api.ValueSet}
	many := s.count(node)
	for i := 0; at > 0; i++ {
		at--
		for below := 1 << (many - 1 - i); at >= below; below = 1 << (many - 1 - i) {
			at -= below
			i++
		}
		out.Items = append(out.Items, s.member(node, i))
	}
	return fitted(out)
}

// function is the function with a number: the item at the first key changes last.
func (s *set) function(keys []api.Value, args []int, at int) api.Value {
	f := api.Value{Kind: api.ValueFunc, Keys: keys, Items: make([]api.Value, len(keys))}
	for i := range slices.Backward(keys) {
		c := s.count(args[i])
		f.Items[i] = s.member(args[i], at%c)
		at /= c
	}
	return fitted(f)
}

// number is the number of a member of a node.
func (s *set) number(node int, v api.Value) int {
	n := s.l[node]
	switch n.Kind {
	case api.LazyListed:
		at, _ := values.Find(n.Members, v)
		return at
	case api.LazyInterval:
		return v.N - n.Low
	case api.LazySubsets:
		return s.subsetNumber(n.Args[0], v)
	case api.LazyFunctions:
		return s.functionNumber(v, slices.Repeat(n.Args[1:], len(v.Items)))
	case api.LazyRecords, api.LazyProduct:
		return s.functionNumber(v, n.Args)
	}
	at, _ := values.Find(s.combined(node), v)
	return at
}

func (s *set) subsetNumber(node int, v api.Value) int {
	many := s.count(node)
	out, next := 0, 0
	for _, x := range v.Items {
		at := s.number(node, x)
		for ; next < at; next++ {
			out += 1 << (many - 1 - next)
		}
		out++
		next = at + 1
	}
	return out
}

func (s *set) functionNumber(v api.Value, args []int) int {
	out := 0
	for i, x := range v.Items {
		out = out*s.count(args[i]) + s.number(args[i], x)
	}
	return out
}
