package lasso

import (
	"slices"
	"strconv"

	"stutter/api"
)

// maxLetter is the greatest letter.
const maxLetter = 1<<api.MaxLetterBits - 1

// operandsOf is how many operands a kind of node has.
func operandsOf(kind int) int {
	switch kind {
	case api.FormulaTrue, api.FormulaAtom:
		return 0
	case api.FormulaNot, api.FormulaAlways, api.FormulaSometime:
		return 1
	}
	return 2
}

// CheckFormula says whether nodes are a formula.
func CheckFormula(f api.Formula) (int, api.Errno) {
	if len(f) == 0 {
		return 0, api.ErrEmpty
	}
	if len(f) > api.MaxFormulaNodes {
		return 0, api.ErrLarge
	}
	starts := make([]int, len(f))
	for i, n := range f {
		if n.Kind < 0 || n.Kind >= api.FormulaKinds {
			return i, api.ErrKind
		}
		if len(n.Args) != operandsOf(n.Kind) || !standTogether(n.Args, i, starts) {
			return i, api.ErrShape
		}
		if n.N < 0 || n.N >= api.MaxLetterBits || n.N > 0 && n.Kind != api.FormulaAtom {
			return i, api.ErrRange
		}
	}
	if starts[len(f)-1] != 0 {
		return len(f) - 1, api.ErrOpen
	}
	return 0, api.OK
}

// standTogether says whether operands stand together just before their node.
func standTogether(args []int, at int, starts []int) bool {
	next := at
	for _, a := range slices.Backward(args) {
		if a != next-1 || a < 0 {
			return false
		}
		next = starts[a]
	}
	starts[at] = next
	return true
}

// IsGuarded says whether atoms stand in a formula only where stuttering does not matter.
func IsGuarded(f api.Formula, steps []int) (bool, api.Errno) {
	if _, err := CheckFormula(f); err != api.OK {
		return false, err
	}
	if len(steps) > api.MaxLetterBits {
		return false, api.ErrLarge
	}
	for _, s := range steps {
		if s < 0 || s >= api.MaxLetterBits {
			return false, api.ErrRange
		}
	}
	parents := make([]int, len(f)+1)
	for i := range parents {
		parents[i] = api.None
	}
	for i, n := range f {
		for _, a := range n.Args {
			parents[a] = i
		}
	}
	kind := func(i int) int {
		if i == api.None {
			return api.None
		}
		return f[i].Kind
	}
	for i, n := range f {
		if n.Kind != api.FormulaAtom || !slices.Contains(steps, n.N) {
			continue
		}
		p := parents[i]
		never := kind(p) == api.FormulaNot && kind(parents[p]) == api.FormulaAlways
		if kind(p) != api.FormulaSometime && !never {
			return false, api.OK
		}
	}
	return true, api.OK
}

// sign is the sign between the operands of a kind.
func sign(kind int) string {
	switch kind {
	case api.FormulaAnd:
		return "&"
	case api.FormulaOr:
		return "|"
	case api.FormulaImplies:
		return "->"
	case api.FormulaLeads:
		return "~>"
	}
	return "U"
}

// FormatFormula returns the text of a formula.
func FormatFormula(f api.Formula) (string, api.Errno) {
	if _, err := CheckFormula(f); err != api.OK {
		return "", err
	}
	texts := make([]string, len(f))
	for i, n := range f {
		switch n.Kind {
		case api.FormulaTrue:
			texts[i] = "true"
		case api.FormulaAtom:
			texts[i] = "p" + strconv.Itoa(n.N)
		case api.FormulaNot:
			texts[i] = "!" + texts[n.Args[0]]
		case api.FormulaAlways:
			texts[i] = "[]" + texts[n.Args[0]]
		case api.FormulaSometime:
			texts[i] = "<>" + texts[n.Args[0]]
		default:
			texts[i] = "(" + texts[n.Args[0]] + " " + sign(n.Kind) + " " + texts[n.Args[1]] + ")"
		}
	}
	return texts[len(f)-1], api.OK
}

// maxFormulaText is how long the text of a formula may be.
const maxFormulaText = 400

// stop is the index of a character that cannot stand there.
type stop struct{ at int }

// reader reads the text of a formula; it panics with a stop.
type reader struct {
	text string
	at   int
	out  api.Formula
}

// ParseFormula returns the formula with a text, and its length.
func ParseFormula(s string) (f api.Formula, at int, err api.Errno) {
	if len(s) > maxFormulaText {
		return nil, 0, api.ErrLarge
	}
	r := &reader{text: s}
	defer func() {
		if x := recover(); x != nil {
			f, at, err = nil, 0, api.ErrSyntax
			if where, is := x.(stop); is {
				at = where.at
			}
		}
	}()
	r.formula()
	if r.at < len(s) {
		panic(stop{r.at})
	}
	if _, err := CheckFormula(r.out); err != api.OK {
		return nil, 0, err
	}
	return r.out, len(s), api.OK
}

// take reads a sign.
func (r *reader) take(text string) {
	for i := range len(text) {
		if r.peek() != text[i] {
			panic(stop{r.at})
		}
		r.at++
	}
}

// peek is the next character, 0 at the end.
func (r *reader) peek() byte {
	if r.at < len(r.text) {
		return r.text[r.at]
	}
	return 0
}

// add adds a node, and returns its index.
func (r *reader) add(n api.FormulaNode) int {
	r.out = append(r.out, n)
	return len(r.out) - 1
}

// formula reads a formula, and returns its root.
func (r *reader) formula() int {
	kind := api.FormulaNot
	switch r.peek() {
	case 't':
		r.take("true")
		return r.add(api.FormulaNode{Kind: api.FormulaTrue})
	case 'p':
		return r.atom()
	case '(':
		return r.binary()
	case '[':
		r.take("[]")
		kind = api.FormulaAlways
	case '<':
		r.take("<>")
		kind = api.FormulaSometime
	default:
		r.take("!")
	}
	operand := r.formula()
	return r.add(api.FormulaNode{Kind: kind, Args: []int{operand}})
}

func (r *reader) atom() int {
	r.take("p")
	first := r.peek()
	if first < '0' || first > '9' {
		panic(stop{r.at})
	}
	n := int(first - '0')
	r.at++
	if c := r.peek(); first != '0' && c >= '0' && c <= '9' {
		n = n*10 + int(c-'0')
		r.at++
	}
	return r.add(api.FormulaNode{Kind: api.FormulaAtom, N: n})
}

func (r *reader) binary() int {
	r.take("(")
	a := r.formula()
	r.take(" ")
	kind := api.FormulaUntil
	switch r.peek() {
	case '&':
		kind = api.FormulaAnd
	case '|':
		kind = api.FormulaOr
	case '-':
		kind = api.FormulaImplies
	case '~':
		kind = api.FormulaLeads
	}
	r.take(sign(kind))
	r.take(" ")
	b := r.formula()
	r.take(")")
	return r.add(api.FormulaNode{Kind: kind, Args: []int{a, b}})
}
