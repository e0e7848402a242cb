package level

import (
	"slices"

	"stutter/api"
	"stutter/usage"
	"stutter/words"
)

// CheckScope says whether constants, variables and definitions fit together.
func CheckScope(s api.LevelScope) (int, api.Errno) {
	if len(s.Constants) > api.MaxConstants || len(s.Vars) > api.MaxVars || len(s.Defs) > api.MaxDefs {
		return 0, api.ErrLarge
	}
	given := slices.Concat(s.Constants, s.Vars)
	if slices.ContainsFunc(given, func(name string) bool { return !words.IsName(name) }) {
		return 0, api.ErrName
	}
	known := map[string]usage.Takes{}
	for i, name := range given {
		if _, is := known[name]; is {
			return 0, api.ErrExists
		}
		known[name] = usage.Takes{Any: i < len(s.Constants)}
	}
	all := usage.NamesOf(s)
	for i, d := range s.Defs {
		if err := checkDef(d, known, all); err != api.OK {
			return i, err
		}
		known[d.Name] = usage.Takes{Arity: len(d.Params)}
	}
	return 0, api.OK
}

// checkDef looks at a definition; known are the names before it.
func checkDef(d api.Def, known, all map[string]usage.Takes) api.Errno {
	for _, name := range slices.Concat([]string{d.Name}, d.Params) {
		if !words.IsName(name) {
			return api.ErrName
		}
	}
	if _, is := known[d.Name]; is {
		return api.ErrExists
	}
	if len(d.Params) > api.MaxParams {
		return api.ErrLarge
	}
	if len(d.Arities) != len(d.Params) {
		return api.ErrShape
	}
	for _, n := range d.Arities {
		if n < 0 || n > api.MaxParams {
			return api.ErrRange
		}
	}
	for i, name := range d.Params {
		if slices.Contains(d.Params[:i], name) {
			return api.ErrDouble
		}
	}
	inner := map[string]usage.Takes{}
	for name, t := range known {
		inner[name] = t
	}
	if d.Recursive {
		inner = all
	}
	params := map[string]usage.Takes{}
	for i, name := range d.Params {
		if _, is := all[name]; is {
			return api.ErrClash
		}
		params[name] = usage.Takes{Arity: d.Arities[i]}
	}
	return usage.CheckIn(d.Body, inner, params)
}

// checkBoth is the error of a scope, and then of an expression in it.
func checkBoth(s api.LevelScope, e api.Expr) api.Errno {
	if _, err := CheckScope(s); err != api.OK {
		return err
	}
	return usage.CheckIn(e, usage.NamesOf(s), nil)
}
