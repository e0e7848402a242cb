package pluscal

import (
	"testing"

	"stutter/api"
	"stutter/tokens"
)

func tokensOf(t *testing.T, lines []string) []api.Token {
	t.Helper()
	l, p, err := tokens.TokensOf(lines)
	if err != api.OK {
		t.Fatal(p, err)
	}
	return l
}
