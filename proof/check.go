package proof

import (
	"slices"

	"stutter/api"
	"stutter/tree"
	"stutter/words"
)

// failure is an error on its way out of a proof.
type failure struct {
	path []int
	err  api.Errno
}

// caught calls a function, and returns the failure with which it ends, if it does.
func caught(do func()) (path []int, err api.Errno) {
	defer func() {
		if r := recover(); r != nil {
			f, known := r.(failure)
			if !known {
				f.err = api.ErrForm
			}
			path, err = f.path, f.err
		}
	}()
	do()
	return nil, api.OK
}

// CheckTheorem returns the first fault of a theorem.
func CheckTheorem(t api.Theorem) api.Errno {
	if len(t.Facts) > api.MaxItems || len(t.Defs) > api.MaxDefs {
		return api.ErrLarge
	}
	names := map[string]bool{}
	for _, f := range t.Facts {
		if !words.IsName(f.Name) {
			return api.ErrName
		}
		if names[f.Name] {
			return api.ErrDouble
		}
		names[f.Name] = true
		if _, err := tree.CheckExpr(f.Expr); err != api.OK {
			return err
		}
	}
	for i, d := range t.Defs {
		if err := checkDef(d, t.Defs[:i]); err != api.OK {
			return err
		}
	}
	_, err := tree.CheckExpr(t.Goal)
	return err
}

// checkDef returns the error of a definition behind others.
func checkDef(d api.Def, before []api.Def) api.Errno {
	if !words.IsName(d.Name) || !all(d.Params, words.IsName) {
		return api.ErrName
	}
	for _, b := range before {
		if b.Name == d.Name {
			return api.ErrExists
		}
	}
	if len(d.Params) > api.MaxParams {
		return api.ErrLarge
	}
	if len(d.Arities) != len(d.Params) {
		return api.ErrShape
	}
	for i, p := range d.Params {
		if slices.Contains(d.Params[:i], p) {
			return api.ErrDouble
		}
	}
	if d.Local || d.Recursive || slices.ContainsFunc(d.Arities, func(n int) bool { return n != 0 }) {
		return api.ErrRefused
	}
	_, err := tree.CheckExpr(d.Body)
	return err
}

func all(l []string, is func(string) bool) bool {
	return !slices.ContainsFunc(l, func(s string) bool { return !is(s) })
}

// CheckSteps returns the path of the first step that is wrong.
func CheckSteps(l []api.Step) ([]int, api.Errno) {
	if len(l) == 0 {
		return nil, api.ErrEmpty
	}
	if counted(l, 1, 0) > api.MaxProofSteps {
		return nil, api.ErrLarge
	}
	return caught(func() { checkLevel(l, nil) })
}

// counted adds the steps up to one level too many to a number, until there are too many.
func counted(l []api.Step, level, n int) int {
	for _, s := range l {
		n++
		if n > api.MaxProofSteps {
			return n
		}
		if level <= api.MaxProofDepth {
			n = counted(s.Steps, level+1, n)
		}
	}
	return n
}

func checkLevel(l []api.Step, around []int) {
	for i, s := range l {
		path := append(slices.Clone(around), i)
		if err := checkStep(s, len(path), i == len(l)-1); err != api.OK {
			panic(failure{path, err})
		}
		checkLevel(s.Steps, path)
	}
}

// checkStep returns the error of a step on a level.
func checkStep(s api.Step, level int, last bool) api.Errno {
	switch {
	case level > api.MaxProofDepth:
		return api.ErrLarge
	case s.Kind < 0 || s.Kind >= api.StepKinds || s.Proof < 0 || s.Proof >= api.ProofKinds:
		return api.ErrKind
	case (s.Kind == api.StepQed) != last:
		return api.ErrState
	case !formed(s):
		return api.ErrForm
	}
	for _, l := range [][]string{s.Facts, s.By, s.Defs} {
		if !all(l, words.IsName) {
			return api.ErrName
		}
	}
	for _, name := range []string{s.Label, s.Name} {
		if name != "" && !words.IsName(name) {
			return api.ErrName
		}
	}
	for _, e := range []api.Expr{s.Expr, s.Set} {
		if _, err := tree.CheckExpr(e); err != api.OK && len(e) > 0 {
			return err
		}
	}
	if s.Kind == api.StepDefine {
		if err := checkDef(s.Def, nil); err != api.OK {
			return err
		}
	}
	if s.Proof == api.ProofSteps && len(s.Steps) == 0 {
		return api.ErrEmpty
	}
	return api.OK
}

// shape is what steps of a kind have: each must be there, but for a set, which may be.
type shape struct{ expr, name, set, facts, def, asks bool }

func shapeOf(kind int) shape {
	switch kind {
	case api.StepHave:
		return shape{expr: true}
	case api.StepTake:
		return shape{name: true, set: true}
	case api.StepWitness:
		return shape{expr: true, set: true}
	case api.StepPick:
		return shape{expr: true, name: true, set: true, asks: true}
	case api.StepUse, api.StepHide:
		return shape{facts: true}
	case api.StepDefine:
		return shape{def: true}
	case api.StepQed:
		return shape{asks: true}
	}
	return shape{expr: true, asks: true}
}

// asks says whether something has to be proved for a step.
func asks(s api.Step) bool {
	return shapeOf(s.Kind).asks || s.Kind == api.StepWitness && len(s.Set) > 0
}

func hasDef(d api.Def) bool {
	return d.Name != "" || len(d.Params) > 0 || len(d.Arities) > 0 || len(d.Body) > 0 || d.Local || d.Recursive
}

// formed says whether a step has what its kind and its proof have, and nothing else.
func formed(s api.Step) bool {
	has := shapeOf(s.Kind)
	by := len(s.By) > 0 || len(s.Defs) > 0
	return has.expr == (len(s.Expr) > 0) && has.name == (s.Name != "") && (has.set || len(s.Set) == 0) && has.facts == (len(s.Facts) > 0) && has.def == hasDef(s.Def) &&
		asks(s) == (s.Proof != api.ProofNone) && by == (s.Proof == api.ProofBy) && (s.Proof == api.ProofSteps || len(s.Steps) == 0)
}
