package automata

import (
	"math/rand"
	"testing"

	"stutter/api"
)

// shortestLoop is how many states a shortest loop has that begins in a state with the loop of a word, and meets all sets; 0 if there is none.
func shortestLoop(a api.Automaton, w api.Word, start int) int {
	type place struct {
		state, at int
		met       uint
	}
	met := func(s int) uint {
		var out uint
		for i, set := range a.Accept {
			for _, x := range set {
				if x == s {
					out |= 1 << i
				}
			}
		}
		return out
	}
	now := map[place]bool{{start, 0, met(start)}: true}
	seen := map[place]bool{}
	for steps := 1; len(now) > 0; steps++ {
		next := map[place]bool{}
		for p := range now {
			for _, e := range a.Edges {
				if e.From != p.state || !reads(e, w.Loop[p.at]) {
					continue
				}
				q := place{e.To, (p.at + 1) % len(w.Loop), p.met | met(e.To)}
				if e.To == start && q.at == 0 && p.met == 1<<len(a.Accept)-1 {
					return steps
				}
				if !seen[q] {
					seen[q], next[q] = true, true
				}
			}
		}
		now = next
	}
	return 0
}

// TestShortLoops has automata by chance: the loop of a run is a shortest one from where it begins.
func TestShortLoops(t *testing.T) {
	r := rand.New(rand.NewSource(74))
	found := 0
	for range 4000 {
		a := api.Automaton{States: 2 + r.Intn(9), Init: []int{0}}
		for range a.States + r.Intn(a.States) {
			e := api.AutomatonEdge{From: r.Intn(a.States), To: r.Intn(a.States), Need: r.Intn(4) & r.Intn(4)}
			e.Never = r.Intn(4) &^ e.Need & r.Intn(4)
			a.Edges = append(a.Edges, e)
		}
		for range r.Intn(4) {
			a.Accept = append(a.Accept, []int{r.Intn(a.States)})
		}
		w := api.Word{}
		for range r.Intn(3) {
			w.Prefix = append(w.Prefix, r.Intn(4))
		}
		for range 1 + r.Intn(5) {
			w.Loop = append(w.Loop, r.Intn(4))
		}
		is, err := Accepts(a, w)
		run, e := RunOf(a, w)
		if err != api.OK || is != (e == api.OK) || !is && e != api.ErrNone {
			t.Fatal(a, w, is, err, e)
		}
		if !is {
			continue
		}
		found++
		if at, err := CheckRun(a, w, run); err != api.OK {
			t.Fatal(a, w, run, at, err)
		}
		if n := shortestLoop(a, w, run.Loop[0]); n != len(run.Loop) {
			t.Fatal(a, w, run, n)
		}
	}
	if found < 300 {
		t.Error(found)
	}
}

// around is a ring of states that is left with some letters, by ways of which each meets some sets, and comes back elsewhere.
func around(ring, places, sets int, ways [][3]int, meets [][]int) (api.Automaton, api.Word) {
	a := api.Automaton{States: ring + len(ways), Init: []int{0}, Accept: make([][]int, sets)}
	for s := range ring {
		a.Edges = append(a.Edges, api.AutomatonEdge{From: s, To: (s + 1) % ring})
	}
	for i, way := range ways {
		s, letter := ring+i, way[0]%places
		a.Edges = append(a.Edges, api.AutomatonEdge{From: way[0] % ring, To: s, Need: letter, Never: 4095 &^ letter}, api.AutomatonEdge{From: s, To: way[1]})
		if way[2] > 0 {
			a.Edges = append(a.Edges, api.AutomatonEdge{From: s, To: s})
		}
		for _, set := range meets[i] {
			a.Accept[set] = append(a.Accept[set], s)
		}
	}
	w := api.Word{}
	for i := range places {
		w.Loop = append(w.Loop, i)
	}
	return a, w
}

// TestLongRuns has automata with runs that are longer than is permitted, and others that are not.
func TestLongRuns(t *testing.T) {
	for i, c := range []struct {
		ring, places, sets int
		ways               [][3]int
		meets              [][]int
		most               int
	}{
		{293, 60, 2, [][3]int{{1, 123, 0}, {113, 55, 0}, {118, 124, 1}}, [][]int{{0}, {1}, {0, 1}}, 300},
		{293, 60, 2, [][3]int{{1, 123, 0}, {113, 55, 0}, {9000, 124, 1}}, [][]int{{0}, {1}, {0, 1}}, 10000},
		{289, 60, 3, [][3]int{{1, 123, 0}, {113, 55, 0}, {5000, 7, 0}, {12000, 17, 1}}, [][]int{{0}, {1}, {2}, {0, 1, 2}}, 13000},
		{271, 59, 8, [][3]int{{100, 0, 1}, {900, 1, 1}, {700, 5, 1}, {20, 77, 1}, {33, 100, 1}, {15000, 4, 1}, {14000, 9, 1}, {71, 200, 1}}, [][]int{{0}, {1}, {2}, {3}, {4}, {5}, {6}, {7}}, 20000},
		{300, 1, 0, nil, nil, 300},
	} {
		a, w := around(c.ring, c.places, c.sets, c.ways, c.meets)
		run, err := RunOf(a, w)
		if err != api.OK || len(run.Prefix)+len(run.Loop) > c.most {
			t.Errorf("%d: %d and %d states, %d", i, len(run.Prefix), len(run.Loop), err)
		}
		if at, err := CheckRun(a, w, run); err != api.OK {
			t.Errorf("%d: %d %d", i, at, err)
		}
	}
	// Without a shorter way the ring must be gone through twice: the run is accepting, but too long.
	a, w := around(293, 60, 2, [][3]int{{1, 123, 0}, {113, 55, 0}}, [][]int{{0}, {1}})
	run, err := RunOf(a, w)
	if is, _ := Accepts(a, w); !is || err != api.OK || len(run.Loop) < maxRun {
		t.Error(is, err, len(run.Loop))
	}
	if _, err := CheckRun(a, w, run); err != api.ErrLarge {
		t.Error(err)
	}
}
