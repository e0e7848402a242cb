package value

import (
	"strconv"
	"strings"

	"stutter/api"
	"stutter/values"
	"stutter/words"
)

// FormatValue returns the text of a value.
func FormatValue(v api.Value) (string, api.Errno) {
	if err := CheckValue(v); err != api.OK {
		return "", err
	}
	return format(v), api.OK
}

func format(v api.Value) string {
	switch v.Kind {
	case api.ValueBool:
		return strings.ToUpper(strconv.FormatBool(v.N == 1))
	case api.ValueInt:
		return strconv.Itoa(v.N)
	case api.ValueString:
		return `"` + strings.ReplaceAll(strings.ReplaceAll(v.S, `\`, `\\`), `"`, `\"`) + `"`
	case api.ValueModel:
		return v.S
	case api.ValueSet:
		return "{" + joined(", ", v.Items, format) + "}"
	}
	at := map[string]api.Value{}
	for i, k := range v.Keys {
		at[format(k)] = v.Items[i]
	}
	switch shapeOf(v) {
	case api.ShapeTuple:
		return "<<" + joined(", ", v.Items, format) + ">>"
	case api.ShapeRecord:
		return "[" + joined(", ", v.Keys, func(k api.Value) string { return k.S + " |-> " + format(at[format(k)]) }) + "]"
	}
	return "(" + joined(" @@ ", v.Keys, func(k api.Value) string { return format(k) + " :> " + format(at[format(k)]) }) + ")"
}

// joined is the texts of values with a sign between.
func joined(between string, l []api.Value, text func(api.Value) string) string {
	var out []string
	for _, v := range l {
		out = append(out, text(v))
	}
	return strings.Join(out, between)
}

// maxOpen is how many opening signs may stand within one another.
const maxOpen = 20

// stop is the index of a character that cannot stand there.
type stop struct{ at int }

// reader reads a text; it panics with a stop.
type reader struct {
	text     string
	at, open int
}

// ParseValue returns the value with a text, and its length.
func ParseValue(s string) (v api.Value, at int, err api.Errno) {
	if len(s) > api.MaxTextLength {
		return api.Value{}, 0, api.ErrLarge
	}
	r := &reader{text: s}
	defer func() {
		if x := recover(); x != nil {
			v, at, err = api.Value{}, 0, api.ErrSyntax
			if where, is := x.(stop); is {
				at = where.at
			}
		}
	}()
	raw := r.value()
	if r.at < len(s) {
		r.stop(r.at)
	}
	if v, err = Normal(raw); err != api.OK {
		return api.Value{}, 0, err
	}
	return v, len(s), api.OK
}

func (r *reader) stop(at int) { panic(stop{at}) }

// blanks goes on to what is no blank.
func (r *reader) blanks() {
	for r.at < len(r.text) && (r.text[r.at] == ' ' || r.text[r.at] == '\n') {
		r.at++
	}
}

// peek is the next character, 0 at the end.
func (r *reader) peek() byte {
	if r.at < len(r.text) {
		return r.text[r.at]
	}
	return 0
}

// sign reads a sign, and blanks behind it.
func (r *reader) sign(s string) {
	for _, c := range []byte(s) {
		if r.peek() != c {
			r.stop(r.at)
		}
		r.at++
	}
	r.blanks()
}

// run reads characters of words.
func (r *reader) run() string {
	from := r.at
	for r.at < len(r.text) && isWordByte(r.text[r.at]) {
		r.at++
	}
	return r.text[from:r.at]
}

func isWordByte(c byte) bool {
	return c >= 'a' && c <= 'z' || c >= 'A' && c <= 'Z' || c == '_' || isDigit(c)
}

func isDigit(c byte) bool { return c >= '0' && c <= '9' }

// value reads a value, with the blanks around it.
func (r *reader) value() api.Value {
	r.blanks()
	c := r.peek()
	if c == '{' || c == '<' || c == '[' || c == '(' {
		if r.open == maxOpen {
			r.stop(r.at)
		}
		r.open++
		defer func() { r.open-- }()
	}
	switch {
	case c == '{':
		r.sign("{")
		return api.Value{Kind: api.ValueSet, Items: r.list("}")}
	case c == '<':
		r.sign("<<")
		return values.Tuple(r.list(">>")...)
	case c == '[':
		r.sign("[")
		return r.pairs(r.key, "|->", ",", "]")
	case c == '(':
		r.sign("(")
		return r.pairs(r.value, ":>", "@@", ")")
	case c == '"':
		return r.quoted()
	case c == '-' || isWordByte(c):
		return r.word()
	}
	r.stop(r.at)
	return api.Value{}
}

// list reads values with commas between, up to a sign.
func (r *reader) list(end string) []api.Value {
	var out []api.Value
	if r.peek() != end[0] {
		v := r.value()
		out = append(out, v)
		for r.peek() == ',' {
			r.sign(",")
			v := r.value()
			out = append(out, v)
		}
	}
	r.sign(end)
	return out
}

// pairs reads the keys and items of a function.
func (r *reader) pairs(key func() api.Value, arrow, between, end string) api.Value {
	f := api.Value{Kind: api.ValueFunc}
	for {
		k := key()
		r.sign(arrow)
		v := r.value()
		f.Keys, f.Items = append(f.Keys, k), append(f.Items, v)
		if r.peek() != between[0] {
			r.sign(end)
			return f
		}
		r.sign(between)
	}
}

// key reads the key of a record.
func (r *reader) key() api.Value {
	from := r.at
	name := r.run()
	if !words.IsWord(name) {
		r.stop(from)
	}
	r.blanks()
	return values.String(name)
}

// quoted reads a string.
func (r *reader) quoted() api.Value {
	var out []byte
	for r.at++; r.peek() != '"' || r.at >= len(r.text); r.at++ {
		if r.at < len(r.text) && r.text[r.at] == '\\' {
			r.at++
			if c := r.peek(); r.at < len(r.text) && c != '"' && c != '\\' {
				r.stop(r.at)
			}
		}
		if r.at >= len(r.text) || r.text[r.at] < 32 || r.text[r.at] > 126 {
			r.stop(r.at)
		}
		out = append(out, r.text[r.at])
	}
	r.at++
	r.blanks()
	return values.String(string(out))
}

// maxDigits is how many digits a number may have.
const maxDigits = 6

// word reads a number, a truth value, or the name of a model value.
func (r *reader) word() api.Value {
	from := r.at
	negative := r.peek() == '-'
	if negative {
		r.at++
	}
	first := r.at
	text := r.run()
	digits := 0
	for digits < len(text) && isDigit(text[digits]) {
		digits++
	}
	if negative || digits == len(text) {
		if digits == 0 || digits > maxDigits {
			r.stop(first + min(digits, maxDigits))
		}
		r.at = first + digits
		r.blanks()
		n, _ := strconv.Atoi(text[:digits])
		if negative {
			n = -n
		}
		return values.Int(n)
	}
	r.blanks()
	switch {
	case text == "TRUE" || text == "FALSE":
		return values.Bool(text == "TRUE")
	case words.IsWord(text):
		return values.Model(text)
	}
	r.stop(from)
	return api.Value{}
}
