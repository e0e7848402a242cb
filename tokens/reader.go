package tokens

import (
	"strconv"
	"strings"

	"stutter/api"
	"stutter/words"
)

// reader goes through lines and keeps what it has found.
type reader struct {
	lines        []string
	line, column int
	tokens       []api.Token
	comments     []api.TextSpan
}

// readAll reads to the end; with an error the reader stays where something is wrong.
func (r *reader) readAll() api.Errno {
	for r.line < len(r.lines) {
		text := r.lines[r.line]
		var err api.Errno
		switch rest := text[r.column:]; {
		case rest == "":
			r.line, r.column = r.line+1, 0
		case rest[0] == ' ':
			r.column++
		case strings.HasPrefix(rest, `\*`):
			r.addComment(api.TextPlace{Line: r.line, Column: len(text)})
		case strings.HasPrefix(rest, "(*"):
			err = r.readComment()
		case strings.HasPrefix(rest, "*)"):
			err = api.ErrSyntax
		default:
			err = r.readToken()
		}
		if err != api.OK {
			return err
		}
	}
	return api.OK
}

// addComment keeps a comment that begins here, and goes behind it.
func (r *reader) addComment(to api.TextPlace) {
	r.comments = append(r.comments, api.TextSpan{From: api.TextPlace{Line: r.line, Column: r.column}, To: to})
	r.line, r.column = to.Line, to.Column
}

// readComment looks for the end of the comment that begins here.
func (r *reader) readComment() api.Errno {
	depth, at := 1, r.column+2
	for line := r.line; line < len(r.lines); line++ {
		text := r.lines[line]
		for at < len(text) {
			switch {
			case strings.HasPrefix(text[at:], "(*"):
				depth++
				at += 2
			case strings.HasPrefix(text[at:], "*)"):
				depth--
				at += 2
			default:
				at++
			}
			if depth == 0 {
				r.addComment(api.TextPlace{Line: line, Column: at})
				return api.OK
			}
		}
		at = 0
	}
	return api.ErrOpen
}

// readToken keeps the token that begins here, and goes behind it.
func (r *reader) readToken() api.Errno {
	text := r.lines[r.line]
	kind, length, err := tokenAt(text, r.column)
	if err != api.OK {
		return err
	}
	end := r.column + length
	r.tokens = append(r.tokens, api.Token{Kind: kind, Text: text[r.column:end], Line: r.line, Column: r.column})
	r.column = end
	return api.OK
}

// tokenAt returns the kind and the length of the token that begins in a line at a column; comments begin elsewhere.
func tokenAt(line string, column int) (int, int, api.Errno) {
	rest := line[column:]
	if rest == "" || strings.HasPrefix(rest, "(*") || strings.HasPrefix(rest, "*)") || strings.HasPrefix(rest, `\*`) {
		return 0, 0, api.ErrSyntax
	}
	if n := runOf(rest, func(c byte) bool { return c == rest[0] }); n >= 4 && (rest[0] == '-' || rest[0] == '=') {
		return api.TokenRule, n, api.OK
	}
	if rest[0] == '"' {
		return stringAt(rest)
	}
	if strings.HasPrefix(rest, "WF_") || strings.HasPrefix(rest, "SF_") {
		return api.TokenSymbol, 3, api.OK
	}
	if n := runOf(rest, isWordByte); n > 0 && runOf(rest[:n], isNoLetter) < n {
		return wordOf(rest[:n])
	}
	if n := runOf(rest, isDigit); n > 0 {
		return numberOf(rest[:n])
	}
	return symbolAt(rest)
}

// runOf is how many characters at the beginning of a text are as asked.
func runOf(text string, is func(byte) bool) int {
	for i := range len(text) {
		if !is(text[i]) {
			return i
		}
	}
	return len(text)
}

func isDigit(c byte) bool    { return c >= '0' && c <= '9' }
func isLetter(c byte) bool   { return c >= 'a' && c <= 'z' || c >= 'A' && c <= 'Z' }
func isNoLetter(c byte) bool { return !isLetter(c) }
func isWordByte(c byte) bool { return isDigit(c) || isLetter(c) || c == '_' }

func stringAt(rest string) (int, int, api.Errno) {
	inner := strings.IndexByte(rest[1:], '"')
	if inner < 0 {
		return 0, 0, api.ErrOpen
	}
	for _, c := range []byte(rest[1 : 1+inner]) {
		if c == '\\' || c < 32 || c > 126 {
			return 0, 0, api.ErrSyntax
		}
	}
	if inner > api.MaxChars {
		return 0, 0, api.ErrLarge
	}
	return api.TokenString, inner + 2, api.OK
}

func wordOf(word string) (int, int, api.Errno) {
	if len(word) > api.MaxName {
		return 0, 0, api.ErrName
	}
	if words.IsReserved(word) {
		return api.TokenWord, len(word), api.OK
	}
	return api.TokenName, len(word), api.OK
}

func numberOf(digits string) (int, int, api.Errno) {
	if len(digits) > 1 && digits[0] == '0' {
		return 0, 0, api.ErrSyntax
	}
	if n, err := strconv.Atoi(digits); err != nil || n > api.MaxNumber {
		return 0, 0, api.ErrRange
	}
	return api.TokenNumber, len(digits), api.OK
}

// symbolAt finds the longest symbol; one of a backslash and letters takes all the letters.
func symbolAt(rest string) (int, int, api.Errno) {
	if n := runOf(rest[1:], isLetter); rest[0] == '\\' && n > 0 {
		if _, err := CanonicalText(rest[:1+n]); err != api.OK {
			return 0, 0, api.ErrSyntax
		}
		return api.TokenSymbol, 1 + n, api.OK
	}
	for n := min(3, len(rest)); n > 0; n-- {
		if _, err := CanonicalText(rest[:n]); err == api.OK {
			return api.TokenSymbol, n, api.OK
		}
	}
	return 0, 0, api.ErrSyntax
}
