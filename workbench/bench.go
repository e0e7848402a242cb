package workbench

import (
	"slices"

	"stutter/api"
	"stutter/scope"
	"stutter/units"
)

// text is a text as it is read: its module, if it is whole, or its error; the modules within it, and what it uses.
type text struct {
	api.WorkText
	module api.Module
	err    api.Errno
	place  api.TextPlace
	within []string
	uses   []string
}

// bench is a project with its texts read, and what came of those that were looked at.
type bench struct {
	texts   []text
	begun   []bool
	results []api.WorkResult
}

func isStandard(module string) bool {
	return slices.Contains([]string{"Naturals", "Integers", "Sequences", "FiniteSets", "Bags", "TLC"}, module)
}

func benchOf(l []api.WorkText) (*bench, api.Errno) {
	if _, err := CheckProject(l); err != api.OK {
		return nil, err
	}
	b := &bench{begun: make([]bool, len(l)), results: make([]api.WorkResult, len(l))}
	for _, t := range l {
		b.texts = append(b.texts, read(t))
	}
	return b, api.OK
}

func read(t api.WorkText) text {
	out := text{WorkText: cloneText(t)}
	m, place, err := units.ModuleOf(t.Lines)
	switch {
	case err != api.OK:
		out.err, out.place = err, place
	case m.Name != t.Name:
		out.err = api.ErrName
	case isStandard(m.Name):
		out.err = api.ErrExists
	default:
		out.module = m
		out.note(m)
		slices.Sort(out.uses)
		out.uses = slices.DeleteFunc(slices.Compact(out.uses), func(s string) bool { return isStandard(s) || slices.Contains(out.within, s) })
	}
	return out
}

// note takes the modules that a module uses, also in those within it.
func (t *text) note(m api.Module) {
	t.uses = append(t.uses, m.Extends...)
	for _, u := range m.Units {
		if u.Kind == api.UnitInstance {
			t.uses = append(t.uses, u.Instance.Module)
		}
		for _, inner := range u.Inner {
			t.within = append(t.within, inner.Name)
			t.note(inner)
		}
	}
}

// place returns where a text with a name is, or None.
func (b *bench) place(name string) int {
	return slices.IndexFunc(b.texts, func(t text) bool { return t.Name == name })
}

// used returns the places of the texts that a text uses, as far as they are there.
func (b *bench) used(i int) []int {
	var out []int
	for _, name := range b.texts[i].uses {
		if at := b.place(name); at >= 0 {
			out = append(out, at)
		}
	}
	return out
}

// reached returns which texts a text uses, directly or by others.
func (b *bench) reached(i int) []bool {
	out := make([]bool, len(b.texts))
	todo := b.used(i)
	for len(todo) > 0 {
		last := len(todo) - 1
		at := todo[last]
		todo = todo[:last]
		if !out[at] {
			out[at] = true
			todo = append(todo, b.used(at)...)
		}
	}
	return out
}

// order returns the texts such that each comes behind those that it uses; what leads to a cycle is left out.
func (b *bench) order() []int {
	var out []int
	for {
		next := slices.IndexFunc(b.texts, func(t text) bool {
			i := b.place(t.Name)
			return !slices.Contains(out, i) && !slices.ContainsFunc(b.used(i), func(u int) bool { return !slices.Contains(out, u) })
		})
		if next < 0 {
			return out
		}
		out = append(out, next)
	}
}

// begin sets what is said of a text before it is checked, and returns the error that it has then.
func (b *bench) begin(i int) api.Errno {
	r := &b.results[i]
	if !b.begun[i] {
		b.begun[i] = true
		t := b.texts[i]
		*r = api.WorkResult{Text: cloneText(t.WorkText), Place: t.place, Uses: slices.Clone(t.uses), Error: b.early(i)}
	}
	return r.Error
}

// early returns the first of the errors for which a text need not be checked.
func (b *bench) early(i int) api.Errno {
	t := b.texts[i]
	clashes := func(name string) bool { return b.place(name) >= 0 }
	switch {
	case t.err != api.OK:
		return t.err
	case slices.ContainsFunc(t.within, clashes):
		return api.ErrClash
	case len(b.used(i)) < len(t.uses):
		return api.ErrMissing
	case b.reached(i)[i]:
		return api.ErrLoop
	}
	for _, u := range b.used(i) {
		// A text that is not looked at yet is one that the order leaves out, and these all have errors.
		if !b.begun[u] || b.results[u].Error != api.OK {
			return api.ErrRefused
		}
	}
	return api.OK
}

// given returns what the texts give that a text uses.
func (b *bench) given(i int) [][]api.ScopeName {
	var out [][]api.ScopeName
	for _, u := range b.used(i) {
		out = append(out, cloneNames(b.results[u].Gives))
	}
	return out
}

func cloneNames(l []api.ScopeName) []api.ScopeName {
	l = slices.Clone(l)
	for i := range l {
		l[i].Params = slices.Clone(l[i].Params)
	}
	return l
}

func sameNames(l, m []api.ScopeName) bool {
	return slices.EqualFunc(l, m, func(a, b api.ScopeName) bool {
		return a.Name == b.Name && a.Module == b.Module && a.Kind == b.Kind && slices.Equal(a.Params, b.Params)
	})
}

// old returns the old result that can be taken over for a text.
func (b *bench) old(i int, l []api.WorkResult) (api.WorkResult, bool) {
	now := b.results[i]
	at := slices.IndexFunc(l, func(r api.WorkResult) bool {
		return r.Text.Name == now.Text.Name && slices.Equal(r.Text.Lines, now.Text.Lines)
	})
	if at < 0 || !l[at].Checked || !slices.Equal(l[at].Uses, now.Uses) || !slices.EqualFunc(l[at].Given, now.Given, sameNames) {
		return api.WorkResult{}, false
	}
	r := l[at]
	now.Checked, now.Error, now.Place, now.Unit, now.Gives = true, r.Error, r.Place, r.Unit, cloneNames(r.Gives)
	return now, true
}

// check asks package scope about a text and all that it uses.
func (b *bench) check(i int) {
	r := &b.results[i]
	r.Checked = true
	reached := b.reached(i)
	var program []api.Module
	own := 0
	for j, t := range b.texts {
		if j == i {
			own = len(program)
		}
		if j == i || reached[j] {
			program = append(program, t.module)
		}
	}
	place, err := scope.CheckProgram(program)
	if err != api.OK {
		r.Error, r.Unit = err, place.Unit
		return
	}
	r.Gives, _ = scope.GivenBy(program, own)
}
