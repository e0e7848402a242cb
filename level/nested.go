package level

import (
	"maps"
	"slices"

	"stutter/api"
)

// mostNested is how many definitions that reach one another are evaluated within one another, and how many uses more than definitions there may be otherwise; there would be no end to the ways through more of them.
const mostNested = 6

// known is the level of a use, as long as some definitions have the levels that are assumed of them, and those that were entered on the way are not evaluated themselves.
type known struct {
	level   int
	assumed map[int]int
	entered map[int]bool
}

// nested is the definitions that are evaluated just now, one within the other, with the levels that they are assumed to have; what is known of uses; and on what those depend that are looked at just now, the innermost one last.
type nested struct {
	uses   [][2]int
	inside map[int]int
	known  map[string][]known
	open   []*known
}

// isCrowded says whether too many definitions reach one another and this one.
func (c *calc) isCrowded(def int) bool {
	within := func(i int) bool { return c.reach[def][i] && c.reach[i][def] }
	members, uses := 0, 0
	for i := range c.scope.Defs {
		if within(i) {
			members++
		}
	}
	for _, u := range c.uses {
		if within(u[0]) && within(u[1]) {
			uses++
		}
	}
	return members > mostNested && uses > members+mostNested
}

// useNested is the level of a definition with operands: its assumed level within its own body, otherwise that of its body.
func (c *calc) useNested(def int, levels []int) int {
	if level, is := c.inside[def]; is {
		c.depend(known{assumed: map[int]int{def: level}})
		return highest(append(slices.Clone(levels), level)...)
	}
	key := keyOfUse(def, levels)
	for _, k := range c.known[key] {
		if c.holds(k) {
			c.depend(k)
			return k.level
		}
	}
	k := &known{assumed: map[int]int{}, entered: map[int]bool{}}
	c.open = append(c.open, k)
	k.level = c.ofBody(def, levels)
	c.open = c.open[:len(c.open)-1]
	delete(k.assumed, def)
	k.entered[def] = true
	c.known[key] = append(c.known[key], *k)
	c.depend(*k)
	return k.level
}

func keyOfUse(def int, levels []int) string {
	out := []byte{byte(def)}
	for _, l := range levels {
		out = append(out, byte(l))
	}
	return string(out)
}

// holds says whether what is known of a use is right now.
func (c *calc) holds(k known) bool {
	for def, level := range k.assumed {
		if now, is := c.inside[def]; !is || now != level {
			return false
		}
	}
	for def := range k.entered {
		if _, is := c.inside[def]; is {
			return false
		}
	}
	return true
}

// depend notes on what the innermost use depends.
func (c *calc) depend(k known) {
	if len(c.open) == 0 {
		return
	}
	last := c.open[len(c.open)-1]
	maps.Copy(last.assumed, k.assumed)
	maps.Copy(last.entered, k.entered)
}

// ofBody is the level of a definition's body; that of one that reaches itself is assumed to be 0 within it, and rises until nothing changes.
func (c *calc) ofBody(def int, levels []int) int {
	if !c.isRecursive(def) {
		return c.level(c.bodies[def], c.params(def, levels), c.newFrame())
	}
	defer delete(c.inside, def)
	for assumed := 0; ; {
		c.inside[def] = assumed
		out := c.level(c.bodies[def], c.params(def, levels), c.newFrame())
		if out == api.None || out <= assumed {
			return out
		}
		assumed = out
	}
}
