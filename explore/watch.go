package explore

import (
	"stutter/action"
	"stutter/api"
)

// properties are what a model asks of its states and steps.
type properties struct{ api.Model }

// firstBroken is the first of some properties that does not hold, with the verdict of their kind.
func firstBroken[T any](spec api.Spec, x T, l []api.Expr, verdict int, holds func(s api.Spec, x T, e api.Expr) (bool, int, api.Errno)) finding {
	for i, e := range l {
		is, _, err := holds(spec, x, e)
		if err != api.OK {
			return failed(err)
		}
		if !is {
			return finding{verdict: verdict, index: i}
		}
	}
	return finding{}
}

func (p properties) ofState(x api.State) finding {
	return firstBroken(p.Spec, x, p.Invariants, api.ExploreInvariant, action.HoldsAt)
}

func (p properties) ofStep(x api.StatePair) finding {
	return firstBroken(p.Spec, x, p.Steps, api.ExploreStep, action.HoldsFor)
}

func (p properties) ofDeadlock() finding {
	if p.Deadlock {
		return finding{verdict: api.ExploreDeadlock}
	}
	return finding{}
}

// goal is an expression that is looked for: the exploration ends with the state for which it holds.
type goal struct {
	spec api.Spec
	expr api.Expr
}

func (g goal) ofState(x api.State) finding {
	holds, _, err := action.HoldsAt(g.spec, x, g.expr)
	if err != api.OK {
		return failed(err)
	}
	if holds {
		return finding{verdict: api.ExploreInvariant}
	}
	return finding{}
}

func (goal) ofStep(api.StatePair) finding { return finding{} }

func (goal) ofDeadlock() finding { return finding{} }
