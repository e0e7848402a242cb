package solver

import (
	"strconv"
	"strings"

	"stutter/api"
)

// FormatClauses returns the string of a formula.
func FormatClauses(f api.Clauses) (string, api.Errno) {
	if err := formulaError(f); err != api.OK {
		return "", err
	}
	var b strings.Builder
	b.WriteString("p cnf " + strconv.Itoa(f.Vars) + " " + strconv.Itoa(len(f.Lists)))
	for _, c := range f.Lists {
		b.WriteByte(';')
		for _, n := range c {
			b.WriteString(strconv.Itoa(n) + " ")
		}
		b.WriteByte('0')
	}
	if b.Len() > api.MaxTextLength {
		return "", api.ErrLarge
	}
	return b.String(), api.OK
}

// ParseClauses returns the formula with a string.
func ParseClauses(s string) (api.Clauses, api.Errno) {
	if len(s) > api.MaxTextLength {
		return api.Clauses{}, api.ErrLarge
	}
	parts := strings.Split(s, ";")
	head := strings.Split(parts[0], " ")
	if len(head) != 4 || head[0] != "p" || head[1] != "cnf" {
		return api.Clauses{}, api.ErrSyntax
	}
	vars, isNumber := number(head[2])
	count, isCount := number(head[3])
	if !isNumber || !isCount || count != len(parts)-1 {
		return api.Clauses{}, api.ErrSyntax
	}
	f := api.Clauses{Vars: vars}
	for _, p := range parts[1:] {
		c, is := clauseIn(p)
		if !is {
			return api.Clauses{}, api.ErrSyntax
		}
		f.Lists = append(f.Lists, c)
	}
	if err := formulaError(f); err != api.OK {
		return api.Clauses{}, err
	}
	return f, api.OK
}

func clauseIn(s string) ([]int, bool) {
	words := strings.Split(s, " ")
	last := len(words) - 1
	if words[last] != "0" {
		return nil, false
	}
	var c []int
	for _, w := range words[:last] {
		digits, isBelow := strings.CutPrefix(w, "-")
		n, is := number(digits)
		if !is || n == 0 {
			return nil, false
		}
		if isBelow {
			n = -n
		}
		c = append(c, n)
	}
	return c, true
}

func number(s string) (int, bool) {
	if len(s) < 1 || len(s) > 4 || s[0] == '0' && len(s) > 1 {
		return 0, false
	}
	n := 0
	for i := range len(s) {
		if s[i] < '0' || s[i] > '9' {
			return 0, false
		}
		n = 10*n + int(s[i]-'0')
	}
	return n, true
}
