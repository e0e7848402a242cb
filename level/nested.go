package level

import (
	"slices"

	"stutter/api"
)

// mostNested is how many definitions that reach one another are evaluated within one another.
const mostNested = 6

// nested is the definitions that are evaluated just now, one within the other, with the levels that they are assumed to have, and what is known of uses while some have such levels.
type nested struct {
	inside map[int]int
	known  map[string]int
}

// isCrowded says whether too many definitions reach one another and this one.
func (c *calc) isCrowded(def int) bool {
	n := 0
	for i := range c.scope.Defs {
		if c.reach[def][i] && c.reach[i][def] && c.isRecursive(i) {
			n++
		}
	}
	return n > mostNested
}

// useNested is the level of a definition with operands: its assumed level within its own body, otherwise that of its body.
func (c *calc) useNested(def int, levels []int) int {
	if assumed, is := c.inside[def]; is {
		return highest(append(slices.Clone(levels), assumed)...)
	}
	key := c.situation(def, levels)
	out, is := c.known[key]
	if !is {
		out = c.ofBody(def, levels)
		c.known[key] = out
	}
	return out
}

// situation is a text of a use, and of the assumed levels that may matter for it.
func (c *calc) situation(def int, levels []int) string {
	out := []byte{byte(def)}
	for _, l := range levels {
		out = append(out, byte(l))
	}
	for i := range c.scope.Defs {
		if l, is := c.inside[i]; is && c.reach[def][i] {
			out = append(out, byte(i), byte(l))
		}
	}
	return string(out)
}

// ofBody is the level of a definition's body; that of one that reaches itself is assumed to be 0 within it, and rises until nothing changes.
func (c *calc) ofBody(def int, levels []int) int {
	if !c.isRecursive(def) {
		return c.level(c.bodies[def], c.params(def, levels), c.newFrame())
	}
	defer delete(c.inside, def)
	for assumed := 0; ; {
		c.inside[def] = assumed
		out := c.level(c.bodies[def], c.params(def, levels), c.newFrame())
		if out == api.None || out <= assumed {
			return out
		}
		assumed = out
	}
}
