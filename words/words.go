// Package words says which strings are names.
package words

import (
	"strings"

	"stutter/api"
)

// IsReserved says whether a word is reserved, so that it is no name.
func IsReserved(word string) bool {
	switch word {
	case "ASSUME", "ASSUMPTION", "AXIOM", "BY", "CASE", "CHOOSE", "CONSTANT", "CONSTANTS", "COROLLARY", "DEF", "DEFINE", "DEFS",
		"DOMAIN", "ELSE", "ENABLED", "EXCEPT", "EXTENDS", "FALSE", "HAVE", "HIDE", "IF", "IN", "INSTANCE", "LAMBDA", "LEMMA",
		"LET", "LOCAL", "MODULE", "NEW", "OBVIOUS", "OMITTED", "ONLY", "OTHER", "PICK", "PROOF", "PROPOSITION", "PROVE", "QED",
		"RECURSIVE", "SUBSET", "SUFFICES", "TAKE", "THEN", "THEOREM", "TRUE", "UNCHANGED", "UNION", "USE", "VARIABLE",
		"VARIABLES", "WITH", "WITNESS":
		return true
	}
	return false
}

// IsWord says whether a string is a name by its characters, and not reserved.
func IsWord(s string) bool {
	if len(s) > api.MaxName || IsReserved(s) {
		return false
	}
	letters := false
	for _, c := range []byte(s) {
		letter := c >= 'a' && c <= 'z' || c >= 'A' && c <= 'Z'
		letters = letters || letter
		if !letter && c != '_' && (c < '0' || c > '9') {
			return false
		}
	}
	return letters
}

// IsName says whether a string is a name of expressions: those have a meaning for BOOLEAN and STRING, and read WF_ and SF_ as signs.
func IsName(s string) bool {
	if s == "BOOLEAN" || s == "STRING" || strings.HasPrefix(s, "WF_") || strings.HasPrefix(s, "SF_") {
		return false
	}
	return IsWord(s)
}

// IsQualified says whether a string is two names with "!" between.
func IsQualified(s string) bool {
	before, after, found := strings.Cut(s, "!")
	return found && IsName(before) && IsName(after)
}

// IsBuiltIn says whether a string is one of the four values and sets that are written as words.
func IsBuiltIn(s string) bool {
	return s == "TRUE" || s == "FALSE" || s == "BOOLEAN" || s == "STRING"
}
