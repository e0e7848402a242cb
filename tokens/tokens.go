// Package tokens is chapter 1: names, numbers, strings and signs of texts. See shared/doc/01-tokens.md.
package tokens

import (
	"strings"

	"stutter/api"
)

// CheckLines says whether lines are a text, and how many there are.
func CheckLines(l []string) (int, api.Errno) {
	if len(l) > api.MaxLines {
		return 0, api.ErrLarge
	}
	for i, line := range l {
		if len(line) > api.MaxColumns {
			return i, api.ErrLarge
		}
		for at := range len(line) {
			if line[at] < 32 || line[at] > 126 {
				return i, api.ErrForm
			}
		}
	}
	return len(l), api.OK
}

// TokensOf returns the tokens of a text.
func TokensOf(l []string) ([]api.Token, api.TextPlace, api.Errno) {
	r, place, err := readText(l)
	if err != api.OK {
		return nil, place, err
	}
	return r.tokens, api.TextPlace{}, api.OK
}

// readText reads a whole text with all of its errors.
func readText(l []string) (*reader, api.TextPlace, api.Errno) {
	if line, err := CheckLines(l); err != api.OK {
		return nil, api.TextPlace{Line: line}, err
	}
	r := &reader{lines: l}
	if err := r.readAll(); err != api.OK {
		return nil, api.TextPlace{Line: r.line, Column: r.column}, err
	}
	if len(r.tokens) > api.MaxTokens {
		return nil, api.TextPlace{}, api.ErrLarge
	}
	return r, api.TextPlace{}, api.OK
}

// checkText says whether a token has the text of one token of its kind.
func checkText(t api.Token) api.Errno {
	if t.Kind < 0 || t.Kind >= api.TokenKinds {
		return api.ErrKind
	}
	kind, length, err := tokenAt(t.Text, 0)
	if err != api.OK || kind != t.Kind || length != len(t.Text) {
		return api.ErrSyntax
	}
	return api.OK
}

// CheckToken accepts a token that a text may have.
func CheckToken(t api.Token) api.Errno {
	if err := checkText(t); err != api.OK {
		return err
	}
	if t.Column < 0 || len(t.Text) > api.MaxColumns || t.Column > api.MaxColumns-len(t.Text) {
		return api.ErrRange
	}
	if t.Line < 0 || t.Line >= api.MaxLines {
		return api.ErrRange
	}
	return api.OK
}

// CommentsIn returns where the outermost comments of a text begin and end.
func CommentsIn(l []string) ([]api.TextSpan, api.TextPlace, api.Errno) {
	r, place, err := readText(l)
	if err != api.OK {
		return nil, place, err
	}
	return r.comments, api.TextPlace{}, api.OK
}

// WithoutComments returns the lines of a text with blanks in the places of comments.
func WithoutComments(l []string) ([]string, api.TextPlace, api.Errno) {
	r, place, err := readText(l)
	if err != api.OK {
		return nil, place, err
	}
	out := make([]string, len(l))
	copy(out, l)
	for _, c := range r.comments {
		for line := c.From.Line; line <= c.To.Line; line++ {
			from, to := 0, len(out[line])
			if line == c.From.Line {
				from = c.From.Column
			}
			if line == c.To.Line {
				to = c.To.Column
			}
			out[line] = out[line][:from] + strings.Repeat(" ", to-from) + out[line][to:]
		}
	}
	return out, api.TextPlace{}, api.OK
}

// PrintedAt returns lines on which each token stands at its place.
func PrintedAt(l []api.Token) ([]string, int, api.Errno) {
	if len(l) > api.MaxTokens {
		return nil, 0, api.ErrLarge
	}
	for i, t := range l {
		if err := CheckToken(t); err != api.OK {
			return nil, i, err
		}
		if i == 0 {
			continue
		}
		if err := checkBehind(l[i-1], t); err != api.OK {
			return nil, i, err
		}
	}
	lines := placed(l)
	if i := firstChanged(l, lines); i < len(l) {
		return nil, i, api.ErrClash
	}
	return lines, len(lines), api.OK
}

// checkBehind says whether a token may stand behind another one where both stand.
func checkBehind(before, t api.Token) api.Errno {
	end := before.Column + len(before.Text)
	if t.Line < before.Line || t.Line == before.Line && t.Column < end {
		return api.ErrOrder
	}
	if t.Line == before.Line && t.Column == end && apart(before, t) {
		return api.ErrClash
	}
	return api.OK
}

// placed writes tokens, which are in order, at their places.
func placed(l []api.Token) []string {
	if len(l) == 0 {
		return nil
	}
	lines := make([]string, l[len(l)-1].Line+1)
	for _, t := range l {
		line := lines[t.Line]
		lines[t.Line] = line + strings.Repeat(" ", t.Column-len(line)) + t.Text
	}
	return lines
}

// firstChanged is the index of the first token that lines do not have as it is, or the number of tokens.
func firstChanged(l []api.Token, lines []string) int {
	r := &reader{lines: lines}
	r.readAll() // an error shows in the tokens that are not there
	for i, t := range l {
		if i >= len(r.tokens) || r.tokens[i] != t {
			return i
		}
	}
	return len(l)
}

// JoinedText returns tokens in one line.
func JoinedText(l []api.Token) (string, api.Errno) {
	if len(l) > api.MaxTokens {
		return "", api.ErrLarge
	}
	for _, t := range l {
		if err := checkText(t); err != api.OK {
			return "", err
		}
	}
	var out strings.Builder
	for i, t := range l {
		if i > 0 && blankBetween(l[i-1], t) {
			out.WriteByte(' ')
		}
		out.WriteString(t.Text)
		if out.Len() > api.MaxTextLength {
			return "", api.ErrLarge
		}
	}
	return out.String(), api.OK
}

// blankBetween says whether joined tokens have a blank between them: three signs may be read as one, too.
func blankBetween(a, b api.Token) bool {
	if a.Text == "(" && (b.Text == "+" || b.Text == "-") {
		return true
	}
	return a.Text == "-" && b.Text == "-" || apart(a, b)
}

// MustBeApart says whether two tokens must have a blank between them.
func MustBeApart(a, b api.Token) (bool, api.Errno) {
	if err := checkText(a); err != api.OK {
		return false, err
	}
	if err := checkText(b); err != api.OK {
		return false, err
	}
	return apart(a, b), api.OK
}

// apart says of two valid tokens whether they are read otherwise side by side.
func apart(a, b api.Token) bool {
	r := &reader{lines: []string{a.Text + b.Text}}
	if r.readAll() != api.OK || len(r.tokens) != 2 {
		return true
	}
	first, second := r.tokens[0], r.tokens[1]
	return first.Kind != a.Kind || first.Text != a.Text || second.Kind != b.Kind || second.Text != b.Text
}
