package tokens

import (
	"slices"
	"strings"

	"stutter/api"
)

// symbols are all symbols in their canonical spellings.
var symbols = [...]string{
	"(", ")", "[", "]", "{", "}", "<<", ">>", ",", ":", ".", ";", "!", "@", "_", "'", "==", "<-", "->", "|->", ":=", "]_",
	">>_", "||", "<:", "~", "[]", "<>", "-.", "=>", "<=>", "~>", `/\`, `\/`, "=", "#", "<", "<=", ">", ">=", `\in`, `\notin`,
	`\subseteq`, `\cup`, `\cap`, `\`, "..", "+", "-", "*", "%", "^", `\cdot`, `\div`, `\o`, `\X`, `\A`, `\E`, "WF_", "SF_",
	"(+)", "(-)", `\sqsubseteq`, ":>", "@@",
}

// spellings are pairs: another spelling, and the canonical one.
var spellings = [...][2]string{
	{`\land`, `/\`}, {`\lor`, `\/`}, {`\lnot`, "~"}, {`\neg`, "~"}, {`\equiv`, "<=>"}, {"/=", "#"}, {"=<", "<="},
	{`\leq`, "<="}, {`\geq`, ">="}, {`\union`, `\cup`}, {`\intersect`, `\cap`},
}

// isRule says whether a text is a line of four signs or more.
func isRule(text string) bool {
	if len(text) < 4 || text[0] != '-' && text[0] != '=' {
		return false
	}
	return strings.Trim(text, text[:1]) == ""
}

// CanonicalText returns the canonical spelling of a symbol or a rule.
func CanonicalText(text string) (string, api.Errno) {
	if isRule(text) {
		return strings.Repeat(text[:1], 4), api.OK
	}
	for _, s := range spellings {
		if s[0] == text {
			return s[1], api.OK
		}
	}
	if slices.Contains(symbols[:], text) {
		return text, api.OK
	}
	return "", api.ErrMissing
}

// SymbolsOf returns all symbols in all spellings, ascending.
func SymbolsOf() []string {
	out := slices.Clone(symbols[:])
	for _, s := range spellings {
		out = append(out, s[0])
	}
	slices.Sort(out)
	return out
}
