package scope

import (
	"slices"

	"stutter/api"
	"stutter/units"
)

// StandardOperators returns the operators with a name of the standard modules.
func StandardOperators() []api.Standard {
	return []api.Standard{
		{Module: "Sequences", Name: "Len", Arity: 1}, {Module: "Sequences", Name: "Head", Arity: 1}, {Module: "Sequences", Name: "Tail", Arity: 1},
		{Module: "Sequences", Name: "Append", Arity: 2}, {Module: "Sequences", Name: "SubSeq", Arity: 3},
		{Module: "FiniteSets", Name: "Cardinality", Arity: 1}, {Module: "FiniteSets", Name: "IsFiniteSet", Arity: 1},
		{Module: "Bags", Name: "EmptyBag"}, {Module: "Bags", Name: "SetToBag", Arity: 1}, {Module: "Bags", Name: "BagToSet", Arity: 1},
		{Module: "Bags", Name: "BagIn", Arity: 2}, {Module: "Bags", Name: "CopiesIn", Arity: 2}, {Module: "Bags", Name: "BagCardinality", Arity: 1},
		{Module: "TLC", Name: "Permutations", Arity: 1}, {Module: "TLC", Name: "ToString", Arity: 1}, {Module: "TLC", Name: "Assert", Arity: 2},
	}
}

// standardExtends returns what a standard module extends.
func standardExtends(name string) ([]string, bool) {
	switch name {
	case "Naturals":
		return nil, true
	case "Integers", "Sequences", "FiniteSets":
		return []string{"Naturals"}, true
	case "Bags":
		return []string{"Naturals", "FiniteSets"}, true
	case "TLC":
		return []string{"Sequences", "FiniteSets"}, true
	}
	return nil, false
}

// part is a module of the program, a standard one, or one within another: its path, and what it gives when it has been checked.
type part struct {
	api.Module
	path  string
	top   int // its index in the program, or None
	given map[string]api.ScopeName
}

// view is the modules within that are seen, the last one first.
type view struct {
	*part
	next *view
}

// program is modules that are looked at together.
type program struct {
	parts    []*part
	standard map[string]*part
	inner    map[[2]string]*part // modules within, by the path of the one around and their name
}

func programOf(l []api.Module) *program {
	p := &program{standard: map[string]*part{}, inner: map[[2]string]*part{}}
	for i, m := range l {
		p.parts = append(p.parts, &part{Module: m, path: m.Name, top: i})
	}
	return p
}

// standardPart returns a standard module with what it gives.
func (p *program) standardPart(name string) *part {
	extends, is := standardExtends(name)
	if !is {
		return nil
	}
	if found := p.standard[name]; found != nil {
		return found
	}
	out := &part{path: name, top: api.None, given: map[string]api.ScopeName{}}
	for _, other := range extends {
		for key, g := range p.standardPart(other).given {
			out.given[key] = g
		}
	}
	for _, o := range StandardOperators() {
		if o.Module == name {
			out.given[o.Name] = api.ScopeName{Name: o.Name, Module: name, Kind: api.ScopeStandard, Params: make([]int, o.Arity)}
		}
	}
	p.standard[name] = out
	return out
}

// find returns the module with a name that is seen, the innermost one, or nil.
func (p *program) find(v *view, name string) *part {
	for ; v != nil; v = v.next {
		if v.Name == name {
			return v.part
		}
	}
	for _, x := range p.parts {
		if x.Name == name {
			return x
		}
	}
	return p.standardPart(name)
}

// innerPart is the module of a unit of another one.
func (p *program) innerPart(around *part, m api.Module) *part {
	key := [2]string{around.path, m.Name}
	if p.inner[key] == nil {
		p.inner[key] = &part{Module: m, path: around.path + "/" + m.Name, top: api.None}
	}
	return p.inner[key]
}

// eachUse calls see for each module that a part uses, with the name and the unit, until it returns false.
func (p *program) eachUse(x *part, v *view, see func(used *part, unit int) bool) bool {
	for _, name := range x.Extends {
		if !see(p.find(v, name), 0) {
			return false
		}
	}
	for i, u := range x.Units {
		switch u.Kind {
		case api.UnitInstance:
			if !see(p.find(v, u.Instance.Module), i) {
				return false
			}
		case api.UnitModule:
			within := p.innerPart(x, u.Inner[0])
			if !p.eachUse(within, v, func(used *part, _ int) bool { return see(used, i) }) {
				return false
			}
			v = &view{within, v}
		}
	}
	return true
}

// checkModules finds what is wrong with the modules one by one.
func (p *program) checkModules() (api.ScopePlace, api.Errno) {
	for i, x := range p.parts {
		if unit, err := units.CheckModule(x.Module); err != api.OK {
			return api.ScopePlace{Module: i, Unit: unit}, err
		}
		_, standard := standardExtends(x.Name)
		for _, y := range p.parts[:i] {
			standard = standard || y.Name == x.Name
		}
		if standard {
			return api.ScopePlace{Module: i}, api.ErrExists
		}
		if unit := doubleInner(x.Module); unit != api.None {
			return api.ScopePlace{Module: i, Unit: unit}, api.ErrExists
		}
	}
	return api.ScopePlace{}, api.OK
}

// doubleInner is the first unit with a module whose name one before it has, here or within.
func doubleInner(m api.Module) int {
	var names []string
	for i, u := range m.Units {
		if u.Kind != api.UnitModule {
			continue
		}
		name := u.Inner[0].Name
		if slices.Contains(names, name) || doubleInner(u.Inner[0]) != api.None {
			return i
		}
		names = append(names, name)
	}
	return api.None
}

// checkUses finds modules that are not seen, and those that use themselves.
func (p *program) checkUses() (api.ScopePlace, api.Errno) {
	uses := make([][]bool, len(p.parts))
	for i, x := range p.parts {
		uses[i] = make([]bool, len(p.parts))
		place := api.ScopePlace{Module: i}
		seen := p.eachUse(x, nil, func(used *part, unit int) bool {
			place.Unit = unit
			if used != nil && used.top != api.None {
				uses[i][used.top] = true
			}
			return used != nil
		})
		if !seen {
			return place, api.ErrMissing
		}
	}
	for via := range uses {
		for from := range uses {
			for to := range uses {
				uses[from][to] = uses[from][to] || uses[from][via] && uses[via][to]
			}
		}
	}
	for i := range uses {
		if uses[i][i] {
			return api.ScopePlace{Module: i}, api.ErrLoop
		}
	}
	return api.ScopePlace{}, api.OK
}

// order returns the modules, each behind those that it uses.
func (p *program) order() []int {
	var out []int
	for len(out) < len(p.parts) {
		for i, x := range p.parts {
			ready := !slices.Contains(out, i) && p.eachUse(x, nil, func(used *part, _ int) bool {
				return used.top == api.None || slices.Contains(out, used.top)
			})
			if ready {
				out = append(out, i)
				break
			}
		}
	}
	return out
}

// startedOf checks a program up to the order of its modules.
func startedOf(l []api.Module) (*program, api.ScopePlace, api.Errno) {
	if len(l) == 0 {
		return nil, api.ScopePlace{}, api.ErrEmpty
	}
	if len(l) > api.MaxTextModule {
		return nil, api.ScopePlace{}, api.ErrLarge
	}
	p := programOf(l)
	if place, err := p.checkModules(); err != api.OK {
		return nil, place, err
	}
	if place, err := p.checkUses(); err != api.OK {
		return nil, place, err
	}
	return p, api.ScopePlace{}, api.OK
}
