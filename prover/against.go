package prover

import (
	"slices"
	"strings"

	"stutter/api"
	"stutter/models"
	"stutter/tree"
)

// search is a sequent, prepared for many models.
type search struct {
	names   []string
	hyps    []*models.Formula
	goal    *models.Formula
	members bool
}

// ModelAgainst returns the first small model in which a sequent does not hold.
func ModelAgainst(q api.Sequent) (api.KernelModel, api.Errno) {
	if _, err := CheckGoal(q); err != api.OK {
		return api.KernelModel{}, err
	}
	s, err := prepared(q)
	if err != api.OK {
		return api.KernelModel{}, err
	}
	for size := 2; size <= api.MaxModelSize; size++ {
		if w, found := s.first(size); found {
			return api.KernelModel{Size: size, Names: s.names, Values: w.Values, Members: w.Members}, api.OK
		}
	}
	return api.KernelModel{}, api.ErrNone
}

func prepared(q api.Sequent) (*search, api.Errno) {
	s := &search{}
	all := append(slices.Clone(q.Hyps), q.Goal)
	for _, e := range all {
		if models.Fault(e, func(string, int) bool { return false }) != api.OK {
			return nil, api.ErrRefused
		}
		free, _ := tree.FreeIn(e)
		s.names = append(s.names, free...)
	}
	slices.Sort(s.names)
	s.names = slices.Compact(s.names)
	if slices.ContainsFunc(s.names, func(n string) bool { return strings.Contains(n, "!") }) {
		return nil, api.ErrRefused
	}
	if len(s.names) > api.MaxModelNames {
		return nil, api.ErrLarge
	}
	for _, e := range all {
		f := models.Compile(e, s.names, nil)
		s.hyps = append(s.hyps, f)
		s.members = s.members || f.HasMembers()
	}
	last := len(s.hyps) - 1
	s.goal, s.hyps = s.hyps[last], s.hyps[:last]
	return s, api.OK
}

// first returns the first model with a size against the sequent.
func (s *search) first(size int) (*models.World, bool) {
	w := &models.World{Size: size, Values: make([]int, len(s.names)), Members: make([]int, size*size)}
	for {
		if s.fails(w) {
			return w, true
		}
		if s.members && next(w.Members, 2) {
			continue
		}
		if !next(w.Values, size) {
			return nil, false
		}
	}
}

// next counts on, the last number first, and says whether there was a next one; otherwise all are 0 again.
func next(l []int, base int) bool {
	for i := len(l) - 1; i >= 0; i-- {
		l[i]++
		if l[i] < base {
			return true
		}
		l[i] = 0
	}
	return false
}

func (s *search) fails(w *models.World) bool {
	for _, h := range s.hyps {
		if h.Value(w) != 1 {
			return false
		}
	}
	return s.goal.Value(w) != 1
}
