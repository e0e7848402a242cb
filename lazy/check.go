package lazy

import (
	"slices"

	"stutter/api"
	"stutter/value"
	"stutter/values"
	"stutter/words"
)

// CheckLazy says whether nodes are a set.
func CheckLazy(l api.Lazy) (int, api.Errno) {
	if len(l) == 0 {
		return 0, api.ErrEmpty
	}
	if len(l) > api.MaxLazyNodes {
		return 0, api.ErrLarge
	}
	starts := make([]int, len(l))
	checks := []func(api.LazyNode) api.Errno{checkMembers, checkBounds, checkNames, checkUnused}
	for i, n := range l {
		if n.Kind < 0 || n.Kind >= api.LazyKinds {
			return i, api.ErrKind
		}
		if !hasOperands(n) || !standTogether(n, i, starts) {
			return i, api.ErrShape
		}
		for _, check := range checks {
			if err := check(n); err != api.OK {
				return i, err
			}
		}
	}
	if starts[len(l)-1] != 0 {
		return len(l) - 1, api.ErrOpen
	}
	return 0, api.OK
}

// hasOperands says whether a node has as many operands as its kind needs.
func hasOperands(n api.LazyNode) bool {
	many := len(n.Args)
	switch n.Kind {
	case api.LazySequences, api.LazySubsets:
		return many == 1
	case api.LazyFunctions, api.LazyUnion, api.LazyBoth, api.LazyWithout:
		return many == 2
	case api.LazyRecords:
		return many >= 1 && many == len(n.Names)
	case api.LazyProduct:
		return many >= 2 && many <= api.MaxParams
	}
	return many == 0
}

// standTogether says whether the operands of a node stand together just before it.
func standTogether(n api.LazyNode, at int, starts []int) bool {
	next := at
	for _, a := range slices.Backward(n.Args) {
		if a != next-1 || a < 0 {
			return false
		}
		next = starts[a]
	}
	starts[at] = next
	return true
}

func checkMembers(n api.LazyNode) api.Errno {
	if n.Kind != api.LazyListed {
		return api.OK
	}
	if len(n.Members) > api.MaxMembers {
		return api.ErrLarge
	}
	for _, v := range n.Members {
		if err := value.CheckValue(v); err != api.OK {
			return err
		}
	}
	for i := 1; i < len(n.Members); i++ {
		if values.Compare(n.Members[i-1], n.Members[i]) >= 0 {
			return api.ErrOrder
		}
	}
	return api.OK
}

func checkBounds(n api.LazyNode) api.Errno {
	if n.Kind == api.LazyInterval && (max(n.Low, n.High) > api.MaxNumber || min(n.Low, n.High) < -api.MaxNumber) {
		return api.ErrRange
	}
	return api.OK
}

func checkNames(n api.LazyNode) api.Errno {
	if n.Kind != api.LazyRecords {
		return api.OK
	}
	for i, name := range n.Names {
		if !words.IsWord(name) {
			return api.ErrName
		}
		if i > 0 && name <= n.Names[i-1] {
			return api.ErrOrder
		}
	}
	return api.OK
}

func checkUnused(n api.LazyNode) api.Errno {
	if n.Kind != api.LazyListed && len(n.Members) > 0 || n.Kind != api.LazyInterval && (n.Low != 0 || n.High != 0) || n.Kind != api.LazyRecords && len(n.Names) > 0 {
		return api.ErrForm
	}
	return api.OK
}
