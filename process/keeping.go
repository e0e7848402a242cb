package process

import (
	"slices"

	"stutter/api"
	"stutter/values"
)

// keeping is how a state has the value of a variable.
type keeping interface {
	at(x, self api.Value) api.Value         // the value for an identity
	with(x, self, item api.Value) api.Value // the value with another one for an identity
	isRight(x api.Value) bool               // whether a value has the identities that it must have
	begun(items []api.Value) api.Value      // the value that has these for the identities
}

// asItIs is how a variable is kept that is no function on identities.
type asItIs struct{}

func (asItIs) at(x, _ api.Value) api.Value { return x }

func (asItIs) with(_, _, item api.Value) api.Value { return item }

func (asItIs) isRight(api.Value) bool { return true }

func (asItIs) begun(items []api.Value) api.Value { return items[0] }

// onIdentities is how a variable is kept that is a function on these identities.
type onIdentities []api.Value

// has says whether an identity is one of these.
func (on onIdentities) has(x identity) bool {
	return slices.ContainsFunc(on, func(self api.Value) bool { return values.Same(self, x.self) })
}

func (onIdentities) at(x, self api.Value) api.Value {
	if i, is := values.Find(x.Keys, self); is {
		return x.Items[i]
	}
	return x
}

func (onIdentities) with(x, self, item api.Value) api.Value {
	out := api.Value{Kind: api.ValueFunc, Keys: x.Keys, Items: slices.Clone(x.Items)}
	if i, is := values.Find(x.Keys, self); is {
		out.Items[i] = item
	}
	return out
}

func (on onIdentities) isRight(x api.Value) bool {
	return x.Kind == api.ValueFunc && slices.EqualFunc(values.Set(on...).Items, x.Keys, values.Same)
}

func (on onIdentities) begun(items []api.Value) api.Value {
	f, _ := values.Func(on, items)
	return f
}
