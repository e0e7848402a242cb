package units

import (
	"slices"

	"stutter/api"
	"stutter/tree"
	"stutter/words"
)

// CheckModule says whether a module is valid.
func CheckModule(m api.Module) (int, api.Errno) { return checkModule(m, 1) }

// checkModule looks at a module that is the so manyth within one another.
func checkModule(m api.Module, depth int) (int, api.Errno) {
	if !words.IsName(m.Name) {
		return 0, api.ErrName
	}
	if len(m.Units) > api.MaxUnits || len(m.Extends) > api.MaxItems {
		return 0, api.ErrLarge
	}
	for i, name := range m.Extends {
		if !words.IsName(name) {
			return 0, api.ErrName
		}
		if name == m.Name || slices.Contains(m.Extends[:i], name) {
			return 0, api.ErrDouble
		}
	}
	var recursive, declared []string
	for i, u := range m.Units {
		if err := checkUnit(u, depth, recursive); err != api.OK {
			return i, err
		}
		for _, d := range declaredBy(u, i) {
			if slices.Contains(declared, d.Name) {
				return i, api.ErrExists
			}
			declared = append(declared, d.Name)
		}
		if u.Kind == api.UnitRecursive {
			recursive = append(recursive, u.Names...)
		}
	}
	return 0, api.OK
}

// checkUnit looks at a unit by itself; recursive are the names that are declared RECURSIVE before it.
func checkUnit(u api.Unit, depth int, recursive []string) api.Errno {
	if u.Kind < 0 || u.Kind >= api.UnitKinds {
		return api.ErrKind
	}
	if !hasOwnParts(u) {
		return api.ErrForm
	}
	if !hasShape(u) {
		return api.ErrShape
	}
	if !isSmall(u) || u.Kind == api.UnitModule && depth >= api.MaxInner {
		return api.ErrLarge
	}
	if !hasNames(u) {
		return api.ErrName
	}
	if slices.ContainsFunc(u.Arities, isNoArity) || slices.ContainsFunc(u.Def.Arities, isNoArity) {
		return api.ErrRange
	}
	if hasDouble(u.Def.Params) || hasDouble(u.Instance.Params) || hasDouble(u.Instance.Names) {
		return api.ErrDouble
	}
	for _, e := range expressionsOf(u) {
		if _, err := tree.CheckExpr(e); err != api.OK {
			return err
		}
	}
	if u.Kind == api.UnitModule {
		if _, err := checkModule(u.Inner[0], depth+1); err != api.OK {
			return err
		}
	}
	if u.Def.Recursive != slices.Contains(recursive, u.Def.Name) {
		return api.ErrForm
	}
	return api.OK
}

// hasOwnParts says whether a unit has only what its kind has.
func hasOwnParts(u api.Unit) bool {
	k := u.Kind
	d, x := u.Def, u.Instance
	withNames := k == api.UnitConstants || k == api.UnitVariables || k == api.UnitRecursive
	withExpr := k == api.UnitAssume || k == api.UnitTheorem
	noDef := d.Name == "" && len(d.Params) == 0 && len(d.Arities) == 0 && len(d.Body) == 0 && !d.Local && !d.Recursive
	noInstance := x.Name == "" && len(x.Params) == 0 && x.Module == "" && len(x.Names) == 0 && len(x.With) == 0 && !x.Local
	return (withNames || len(u.Names) == 0) && (withNames && k != api.UnitVariables || len(u.Arities) == 0) &&
		(k == api.UnitDefinition || noDef) && (withExpr || u.Name == "" && len(u.Expr) == 0) &&
		(k == api.UnitInstance || noInstance) && (k == api.UnitModule || len(u.Inner) == 0)
}

// hasShape says whether a unit has as many parts as it must have.
func hasShape(u api.Unit) bool {
	switch u.Kind {
	case api.UnitConstants, api.UnitRecursive:
		return len(u.Names) > 0 && len(u.Names) == len(u.Arities)
	case api.UnitVariables:
		return len(u.Names) > 0
	case api.UnitDefinition:
		return len(u.Def.Params) == len(u.Def.Arities)
	case api.UnitInstance:
		return len(u.Instance.Names) == len(u.Instance.With) && (u.Instance.Name != "" || len(u.Instance.Params) == 0)
	case api.UnitModule:
		return len(u.Inner) == 1
	}
	return true
}

func isSmall(u api.Unit) bool {
	return len(u.Names) <= api.MaxItems && len(u.Instance.Names) <= api.MaxItems &&
		len(u.Def.Params) <= api.MaxParams && len(u.Instance.Params) <= api.MaxParams
}

// hasNames says whether all names of a unit are names.
func hasNames(u api.Unit) bool {
	all := slices.Concat(u.Names, u.Def.Params, u.Instance.Params, u.Instance.Names)
	switch u.Kind {
	case api.UnitDefinition:
		all = append(all, u.Def.Name)
	case api.UnitInstance:
		all = append(all, u.Instance.Module)
	}
	for _, optional := range []string{u.Name, u.Instance.Name} {
		if optional != "" {
			all = append(all, optional)
		}
	}
	return !slices.ContainsFunc(all, func(s string) bool { return !words.IsName(s) })
}

func isNoArity(n int) bool { return n < 0 || n > api.MaxParams }

func hasDouble(names []string) bool {
	for i, name := range names {
		if slices.Contains(names[:i], name) {
			return true
		}
	}
	return false
}

// expressionsOf are the expressions of a unit, in their order.
func expressionsOf(u api.Unit) []api.Expr {
	switch u.Kind {
	case api.UnitDefinition:
		return []api.Expr{u.Def.Body}
	case api.UnitAssume, api.UnitTheorem:
		return []api.Expr{u.Expr}
	case api.UnitInstance:
		return u.Instance.With
	}
	return nil
}

// declaredBy is what a unit declares.
func declaredBy(u api.Unit, at int) []api.Declared {
	var out []api.Declared
	switch u.Kind {
	case api.UnitConstants, api.UnitVariables:
		for i, name := range u.Names {
			d := api.Declared{Name: name, Unit: at, Kind: u.Kind}
			if u.Kind == api.UnitConstants {
				d.Arity = u.Arities[i]
			}
			out = append(out, d)
		}
	case api.UnitDefinition:
		out = append(out, api.Declared{Name: u.Def.Name, Unit: at, Kind: u.Kind, Arity: len(u.Def.Params), Local: u.Def.Local})
	case api.UnitAssume, api.UnitTheorem:
		if u.Name != "" {
			out = append(out, api.Declared{Name: u.Name, Unit: at, Kind: u.Kind})
		}
	case api.UnitInstance:
		if x := u.Instance; x.Name != "" {
			out = append(out, api.Declared{Name: x.Name, Unit: at, Kind: u.Kind, Arity: len(x.Params), Local: x.Local})
		}
	}
	return out
}

// DeclaredIn returns what a module declares, in the order of its units.
func DeclaredIn(m api.Module) ([]api.Declared, api.Errno) {
	if _, err := CheckModule(m); err != api.OK {
		return nil, err
	}
	var out []api.Declared
	for i, u := range m.Units {
		out = append(out, declaredBy(u, i)...)
	}
	return out, api.OK
}
