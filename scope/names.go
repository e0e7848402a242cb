package scope

import (
	"maps"
	"slices"
	"strings"

	"stutter/api"
)

// names is what is visible in a module, what it gives, and which names of RECURSIVE units are not defined yet, with their units.
type names struct {
	*part
	visible map[string]api.ScopeName
	open    map[string]int
	modules *view
}

// oneOrigin says whether two names come from the same declaration.
func oneOrigin(a, b api.ScopeName) bool {
	return a.Module == b.Module && a.Name == b.Name && a.Kind == b.Kind
}

// enter begins a module: what it extends gives names, besides those around it.
func (p *program) enter(x *part, around map[string]api.ScopeName, v *view) (*names, api.Errno) {
	n := &names{part: x, visible: maps.Clone(around), open: map[string]int{}, modules: v}
	if n.visible == nil {
		n.visible = map[string]api.ScopeName{}
	}
	x.given = map[string]api.ScopeName{}
	for _, name := range x.Extends {
		for key, g := range p.find(v, name).given {
			if old, is := n.visible[key]; is && !oneOrigin(old, g) {
				return nil, api.ErrClash
			}
			n.visible[key], x.given[key] = g, g
		}
	}
	if len(n.visible) > api.MaxVisible {
		return nil, api.ErrLarge
	}
	return n, api.OK
}

// check looks at a module, unit by unit; before each unit, and behind the last one, watch is told what is visible.
func (p *program) check(x *part, around map[string]api.ScopeName, v *view, watch func(unit int, n *names)) (int, api.Errno) {
	n, err := p.enter(x, around, v)
	if err != api.OK {
		return 0, err
	}
	for i, u := range x.Units {
		watch(i, n)
		if err := p.checkUnit(n, u); err != api.OK {
			return i, err
		}
		if u.Kind == api.UnitRecursive {
			for _, name := range u.Names {
				n.open[name] = i
			}
		}
		if len(n.visible) > api.MaxVisible {
			return i, api.ErrLarge
		}
	}
	watch(len(x.Units), n)
	first := len(x.Units)
	for _, unit := range n.open {
		first = min(first, unit)
	}
	if first < len(x.Units) {
		return first, api.ErrOpen
	}
	return 0, api.OK
}

// checkUnit looks at a unit, and adds what it declares or brings.
func (p *program) checkUnit(n *names, u api.Unit) api.Errno {
	if u.Kind == api.UnitModule {
		within := p.innerPart(n.part, u.Inner[0])
		if _, err := p.check(within, n.visible, n.modules, func(int, *names) {}); err != api.OK {
			return err
		}
		n.modules = &view{within, n.modules}
		return api.OK
	}
	used := map[string]api.ScopeName{}
	if u.Kind == api.UnitInstance {
		used = p.find(n.modules, u.Instance.Module).given
	}
	added := n.broughtBy(u, used)
	if !n.areNew(u, added) {
		return api.ErrExists
	}
	if err := n.checkExpressions(u, used); err != api.OK {
		return err
	}
	if u.Kind == api.UnitInstance {
		if err := n.checkInstance(u.Instance, used); err != api.OK {
			return err
		}
	}
	local := u.Def.Local || u.Instance.Local
	for _, a := range added {
		n.visible[a.Name] = a
		if !local && u.Kind != api.UnitRecursive {
			n.given[a.Name] = a
		}
	}
	delete(n.open, u.Def.Name)
	return api.OK
}

// broughtBy is the names that a unit declares or brings.
func (n *names) broughtBy(u api.Unit, used map[string]api.ScopeName) []api.ScopeName {
	add := func(name string, kind int, params []int) api.ScopeName {
		return api.ScopeName{Name: name, Module: n.path, Kind: kind, Params: slices.Clone(params)}
	}
	var out []api.ScopeName
	switch u.Kind {
	case api.UnitConstants, api.UnitRecursive:
		kind := u.Kind
		if kind == api.UnitRecursive {
			kind = api.UnitDefinition
		}
		for i, name := range u.Names {
			out = append(out, add(name, kind, make([]int, u.Arities[i])))
		}
	case api.UnitVariables:
		for _, name := range u.Names {
			out = append(out, add(name, u.Kind, nil))
		}
	case api.UnitDefinition:
		out = append(out, add(u.Def.Name, u.Kind, u.Def.Arities))
	case api.UnitAssume, api.UnitTheorem:
		if u.Name != "" {
			out = append(out, add(u.Name, u.Kind, nil))
		}
	case api.UnitInstance:
		before := make([]int, len(u.Instance.Params))
		for _, g := range sorted(used) {
			qualified := strings.Contains(g.Name, "!")
			if isDeclared(g) || qualified && u.Instance.Name != "" {
				continue
			}
			name := g.Name
			if u.Instance.Name != "" {
				name = u.Instance.Name + "!" + name
			}
			out = append(out, add(name, u.Kind, slices.Concat(before, g.Params)))
		}
	}
	return out
}

// isDeclared says whether a name is a constant or a variable.
func isDeclared(g api.ScopeName) bool {
	return g.Kind == api.UnitConstants || g.Kind == api.UnitVariables
}

// sorted are names, ascending.
func sorted(names map[string]api.ScopeName) []api.ScopeName {
	var out []api.ScopeName
	for _, key := range slices.Sorted(maps.Keys(names)) {
		g := names[key]
		g.Params = slices.Clone(g.Params)
		out = append(out, g)
	}
	return out
}

// areNew says whether names that a unit brings, and its parameters, are not visible yet.
func (n *names) areNew(u api.Unit, added []api.ScopeName) bool {
	if _, is := n.visible[u.Instance.Name]; is {
		return false
	}
	for i, a := range added {
		if _, is := n.visible[a.Name]; is && !n.definesOpen(u, a) {
			return false
		}
		for _, b := range added[:i] {
			if a.Name == b.Name {
				return false
			}
		}
	}
	for _, name := range slices.Concat(u.Def.Params, u.Instance.Params) {
		if _, is := n.visible[name]; is {
			return false
		}
	}
	return true
}

// definesOpen says whether a unit defines a name of a RECURSIVE unit as it was announced.
func (n *names) definesOpen(u api.Unit, a api.ScopeName) bool {
	_, is := n.open[a.Name]
	return is && u.Kind == api.UnitDefinition && plainParams(a.Params, len(n.visible[a.Name].Params))
}

// plainParams says whether there are so many parameters, none of which takes arguments.
func plainParams(params []int, many int) bool {
	return len(params) == many && !slices.ContainsFunc(params, func(n int) bool { return n != 0 })
}
