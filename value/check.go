package value

import (
	"slices"

	"stutter/api"
	"stutter/values"
	"stutter/words"
)

// checkAll looks at a value and those within it, all of which are few; unsorted leaves the order of members and keys open.
func checkAll(v api.Value, unsorted bool) api.Errno {
	if err := checkOne(v, unsorted); err != api.OK {
		return err
	}
	for _, l := range [2][]api.Value{v.Keys, v.Items} {
		for _, x := range l {
			if err := checkAll(x, unsorted); err != api.OK {
				return err
			}
		}
	}
	return api.OK
}

// checkOne looks at a value by itself.
func checkOne(v api.Value, unsorted bool) api.Errno {
	if v.Kind < 0 || v.Kind >= api.ValueKinds {
		return api.ErrKind
	}
	if !hasOwnParts(v) {
		return api.ErrForm
	}
	if v.Kind == api.ValueInt && (v.N < -api.MaxNumber || v.N > api.MaxNumber) || v.Kind == api.ValueString && len(v.S) > api.MaxChars {
		return api.ErrRange
	}
	if v.Kind == api.ValueString && !isPrintable(v.S) || v.Kind == api.ValueModel && !words.IsWord(v.S) {
		return api.ErrName
	}
	if v.Kind == api.ValueFunc && len(v.Keys) != len(v.Items) {
		return api.ErrShape
	}
	sorted := v.Keys
	if v.Kind == api.ValueSet {
		sorted = v.Items
	}
	if !unsorted && !ascend(sorted) {
		return api.ErrOrder
	}
	return api.OK
}

// hasOwnParts says whether a value has only what its kind has.
func hasOwnParts(v api.Value) bool {
	number := v.Kind == api.ValueBool || v.Kind == api.ValueInt
	text := v.Kind == api.ValueString || v.Kind == api.ValueModel
	function := v.Kind == api.ValueFunc
	if v.Kind == api.ValueBool && v.N != 0 && v.N != 1 {
		return false
	}
	return (number || v.N == 0) && (text || v.S == "") && (function || len(v.Keys) == 0) && (function || v.Kind == api.ValueSet || len(v.Items) == 0)
}

func isPrintable(s string) bool {
	return !slices.ContainsFunc([]byte(s), func(c byte) bool { return c < 32 || c > 126 })
}

// ascend says whether values ascend, each once.
func ascend(l []api.Value) bool {
	for i := 1; i < len(l); i++ {
		if values.Compare(l[i-1], l[i]) >= 0 {
			return false
		}
	}
	return true
}

// checkEach is the first error of values.
func checkEach(l ...api.Value) api.Errno {
	for _, v := range l {
		if err := CheckValue(v); err != api.OK {
			return err
		}
	}
	return api.OK
}

// CheckValue says whether a value is in normal form.
func CheckValue(v api.Value) api.Errno {
	if !values.Fits(v) {
		return api.ErrLarge
	}
	return checkAll(v, false)
}

// fitted is a new value, if it is small enough.
func fitted(v api.Value) (api.Value, api.Errno) {
	if !values.Fits(v) {
		return api.Value{}, api.ErrLarge
	}
	return values.Clone(v), api.OK
}
