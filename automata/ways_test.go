package automata

import (
	"math/rand"
	"strconv"
	"testing"

	"stutter/api"
	"stutter/lasso"
	"stutter/tableau"
)

// chance makes formulas of so many nodes with so many temporal operators, and atoms.
type chance struct {
	*rand.Rand
	temporal, atoms int
}

func (c *chance) formula(size int) string {
	if size <= 1 {
		return "p" + strconv.Itoa(c.Intn(c.atoms))
	}
	temporal := c.temporal > 0 && c.Intn(2) == 0
	if temporal {
		c.temporal--
	}
	if size == 2 || c.Intn(6) == 0 {
		signs := []string{"!"}
		if temporal {
			signs = []string{"[]", "<>"}
		}
		return signs[c.Intn(len(signs))] + c.formula(size-1)
	}
	signs := []string{" & ", " | ", " -> "}
	if temporal {
		signs = []string{" ~> ", " ~> ", " U "}
	}
	first := 1 + c.Intn(size-2)
	a := c.formula(first)
	return "(" + a + signs[c.Intn(len(signs))] + c.formula(size-1-first) + ")"
}

func (c *chance) word() api.Word {
	letters := func(n int) (out []int) {
		for range n {
			out = append(out, c.Intn(1<<c.atoms))
		}
		return out
	}
	return word(letters(c.Intn(5)), letters(1+c.Intn(5))...)
}

// TestBothWays compares the plain automaton, and one with lasting parts, with the formula, also of negations.
func TestBothWays(t *testing.T) {
	r := rand.New(rand.NewSource(14))
	looked := 0
	for i := range 4000 {
		c := &chance{r, 4, 1 + r.Intn(3)}
		s := c.formula(3 + r.Intn(14))
		f := read(t, s)
		positive := i%2 == 0
		all := tableau.LastingIn(f, positive)
		plain, ok1 := tableau.With(f, positive, 0)
		lasting, ok2 := tableau.With(f, positive, all-r.Intn(3)%(all+1))
		if !ok1 || !ok2 {
			t.Fatalf("%s: %v %v", s, ok1, ok2)
		}
		for range 10 {
			w := c.word()
			holds, _ := lasso.HoldsOn(f, w)
			a, e1 := Accepts(plain, w)
			b, e2 := Accepts(lasting, w)
			if a != (holds == positive) || b != a || e1 != api.OK || e2 != api.OK {
				t.Fatalf("%s, %v on %v: %v %v %v, %d %d", s, positive, w, holds, a, b, e1, e2)
			}
			looked++
		}
	}
}

// TestFourTemporal has formulas with four temporal operators for which an automaton must be small in spite of many atoms.
func TestFourTemporal(t *testing.T) {
	for _, s := range wide {
		f := read(t, s)
		c := &chance{rand.New(rand.NewSource(int64(len(s)))), 0, 12}
		a, err := AutomatonOf(f)
		if _, e := CheckAutomaton(a); err != api.OK || e != api.OK {
			t.Errorf("%s: %d %d", s, err, e)
			continue
		}
		for range 60 {
			w := c.word()
			holds, _ := lasso.HoldsOn(f, w)
			if is, err := Accepts(a, w); is != holds || err != api.OK {
				t.Fatalf("%s on %v: %v %v %d", s, w, holds, is, err)
			}
		}
		if w, err := IsModel(f); err == api.OK {
			if holds, _ := lasso.HoldsOn(f, w); !holds {
				t.Errorf("%s: %v", s, w)
			}
		} else if err != api.ErrNone {
			t.Errorf("%s: no model: %d", s, err)
		}
	}
}
