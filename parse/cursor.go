package parse

import (
	"stutter/api"
	"stutter/tokens"
	"stutter/tree"
)

// failure is why and at which token something cannot be read; of a conflict both operators.
type failure struct {
	at    int
	err   api.Errno
	clash [2]string
}

// cursor goes through tokens, as far as the lists around let it.
type cursor struct {
	list    []api.Token
	at      int
	limited bool
	limit   int // the column of the innermost list, if limited
}

// canonicalTokens returns tokens in their canonical spelling.
func canonicalTokens(l []api.Token) []api.Token {
	out := make([]api.Token, len(l))
	for i, t := range l {
		if t.Kind == api.TokenSymbol {
			t.Text, _ = tokens.CanonicalText(t.Text)
		}
		out[i] = t
	}
	return out
}

// has says whether a token can be read.
func (c *cursor) has() bool {
	return c.at < len(c.list) && !(c.limited && c.list[c.at].Column <= c.limit)
}

// is says whether the next token has one of these texts.
func (c *cursor) is(texts ...string) bool {
	for _, text := range texts {
		if c.has() && c.list[c.at].Text == text {
			return true
		}
	}
	return false
}

// isName says whether the next token is a name.
func (c *cursor) isName() bool {
	return c.has() && c.list[c.at].Kind == api.TokenName
}

// textAt is the text of the token so many places ahead, if it can be read.
func (c *cursor) textAt(ahead int) string {
	d := *c
	d.at += ahead
	if !d.has() {
		return ""
	}
	return d.list[d.at].Text
}

// fail gives up at the next token.
func (c *cursor) fail() {
	switch {
	case c.at >= len(c.list):
		panic(failure{at: c.at, err: api.ErrEnd})
	case !c.has():
		panic(failure{at: c.at, err: api.ErrColumn})
	}
	panic(failure{at: c.at, err: api.ErrSyntax})
}

// take reads a token with this text.
func (c *cursor) take(text string) {
	if !c.is(text) {
		c.fail()
	}
	c.at++
}

// taken reads a token with this text if it comes next.
func (c *cursor) taken(text string) bool {
	if !c.is(text) {
		return false
	}
	c.at++
	return true
}

// name reads a name.
func (c *cursor) name() string {
	if !c.isName() {
		c.fail()
	}
	c.at++
	return c.list[c.at-1].Text
}

// names reads names with commas between.
func (c *cursor) names() []string {
	out := []string{c.name()}
	for c.taken(",") {
		out = append(out, c.name())
	}
	return out
}

// prefixNext returns the prefix operator that comes next.
func (c *cursor) prefixNext() (api.Operator, bool) {
	text := c.textAt(0)
	if text == "-" {
		text = "-."
	}
	o, err := tree.OperatorOf(text)
	return o, err == api.OK && o.Fix == api.FixPrefix
}

// followNext returns the infix or postfix operator that comes next.
func (c *cursor) followNext() (api.Operator, bool) {
	o, err := tree.OperatorOf(c.textAt(0))
	return o, err == api.OK && o.Fix != api.FixPrefix
}

// boundsAhead says whether a "|->" stands before the bracket that closes, in no brackets within; what the lists around end is not looked at.
func (c *cursor) boundsAhead() bool {
	depth := 0
	for d := *c; d.has(); d.at++ {
		switch d.list[d.at].Text {
		case "(", "[", "{", "<<":
			depth++
		case ")", "]", "]_", "}", ">>", ">>_":
			depth--
		case "|->":
			if depth == 0 {
				return true
			}
		}
		if depth < 0 {
			return false
		}
	}
	return false
}
