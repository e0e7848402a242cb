package types

import (
	"slices"
	"strconv"
	"strings"

	"stutter/api"
	"stutter/value"
	"stutter/values"
	"stutter/words"
)

// isLarge says whether a type has too many types in it, or is too deep; it may be within itself.
func isLarge(t api.Type, depth int, left *int) bool {
	*left--
	if *left < 0 || depth > api.MaxTypeDepth {
		return true
	}
	return slices.ContainsFunc(t.Parts, func(p api.Type) bool { return isLarge(p, depth+1, left) })
}

// within says whether something is so of a type, or of one in it.
func within(t api.Type, is func(api.Type) bool) bool {
	return is(t) || slices.ContainsFunc(t.Parts, func(p api.Type) bool { return within(p, is) })
}

func isNoKind(t api.Type) bool { return t.Kind < 0 || t.Kind >= api.TypeKinds }

func hasNoShape(t api.Type) bool {
	n := len(t.Parts)
	if t.Kind == api.TypeRecord {
		return n == 0 || n != len(t.Names)
	}
	wanted := map[int]int{api.TypeSet: 1, api.TypeFunc: 2}[t.Kind]
	return len(t.Names) > 0 || t.Kind == api.TypeTuple && n > api.MaxItems || t.Kind != api.TypeTuple && n != wanted
}

func hasNoName(t api.Type) bool {
	return slices.ContainsFunc(t.Names, func(s string) bool { return !words.IsWord(s) })
}

func hasNoOrder(t api.Type) bool {
	return len(slices.Compact(slices.Clone(t.Names))) != len(t.Names) || !slices.IsSorted(t.Names)
}

func isOutside(t api.Type) bool {
	return t.N != 0 && t.Kind != api.TypeVar || t.N < 0 || t.N > api.MaxTypeNodes
}

func isVar(t api.Type) bool { return t.Kind == api.TypeVar }

// fault is what may be wrong with a type, and its error.
type fault struct {
	is  func(t api.Type) bool
	err api.Errno
}

// CheckType says whether a type is right.
func CheckType(t api.Type) api.Errno {
	left := api.MaxTypeNodes
	if isLarge(t, 1, &left) {
		return api.ErrLarge
	}
	for _, f := range []fault{{isNoKind, api.ErrKind}, {hasNoShape, api.ErrShape}, {hasNoName, api.ErrName}, {hasNoOrder, api.ErrOrder}, {isOutside, api.ErrRange}} {
		if within(t, f.is) {
			return f.err
		}
	}
	return api.OK
}

// HasType says whether a value has a type.
func HasType(v api.Value, t api.Type) (bool, api.Errno) {
	if value.CheckValue(v) != api.OK {
		return false, api.ErrForm
	}
	if err := CheckType(t); err != api.OK {
		return false, err
	}
	return hasType(v, t), api.OK
}

func hasType(v api.Value, t api.Type) bool {
	all := func(l []api.Value, t api.Type) bool {
		return !slices.ContainsFunc(l, func(x api.Value) bool { return !hasType(x, t) })
	}
	switch t.Kind {
	case api.TypeBool:
		return v.Kind == api.ValueBool
	case api.TypeInt:
		return v.Kind == api.ValueInt
	case api.TypeString:
		return v.Kind == api.ValueString
	case api.TypeModel:
		return v.Kind == api.ValueModel
	case api.TypeSet:
		return v.Kind == api.ValueSet && all(v.Items, t.Parts[0])
	case api.TypeFunc:
		return v.Kind == api.ValueFunc && all(v.Keys, t.Parts[0]) && all(v.Items, t.Parts[1])
	case api.TypeVar:
		return true
	}
	if v.Kind != api.ValueFunc || len(v.Keys) != len(t.Parts) {
		return false
	}
	for i, p := range t.Parts {
		key := values.Int(i + 1)
		if t.Kind == api.TypeRecord {
			key = values.String(t.Names[i])
		}
		if !values.Same(v.Keys[i], key) || !hasType(v.Items[i], p) {
			return false
		}
	}
	return true
}

// FormatType returns the text of a type.
func FormatType(t api.Type) (string, api.Errno) {
	if err := CheckType(t); err != api.OK {
		return "", err
	}
	return format(t), api.OK
}

func format(t api.Type) string {
	var parts []string
	for i, p := range t.Parts {
		s := format(p)
		if t.Kind == api.TypeRecord {
			s = t.Names[i] + ": " + s
		}
		parts = append(parts, s)
	}
	switch t.Kind {
	case api.TypeSet:
		return "{" + parts[0] + "}"
	case api.TypeFunc:
		return "(" + parts[0] + " -> " + parts[1] + ")"
	case api.TypeTuple:
		return "<<" + strings.Join(parts, ", ") + ">>"
	case api.TypeRecord:
		return "[" + strings.Join(parts, ", ") + "]"
	case api.TypeVar:
		return "?" + strconv.Itoa(t.N)
	}
	return simple[t.Kind]
}

// simple are the texts of types without parts.
var simple = [...]string{api.TypeBool: "bool", api.TypeInt: "int", api.TypeString: "str", api.TypeModel: "model"}

// reader reads the text of a type; ok says whether it has been one so far.
type reader struct {
	text string
	ok   bool
}

// ParseType returns the type with a text.
func ParseType(s string) (api.Type, api.Errno) {
	if len(s) > api.MaxTextLength {
		return api.Type{}, api.ErrLarge
	}
	r := &reader{s, true}
	t := r.read()
	if !r.ok || r.text != "" {
		return api.Type{}, api.ErrSyntax
	}
	if err := CheckType(t); err != api.OK {
		return api.Type{}, err
	}
	return t, api.OK
}

// taken takes a sign if it comes next.
func (r *reader) taken(sign string) bool {
	rest, is := strings.CutPrefix(r.text, sign)
	if is {
		r.text = rest
	}
	return is
}

// take takes a sign.
func (r *reader) take(sign string) {
	is := r.taken(sign)
	r.ok = r.ok && is
}

// run takes characters.
func (r *reader) run(is func(c byte) bool) string {
	n := 0
	for n < len(r.text) && is(r.text[n]) {
		n++
	}
	out := r.text[:n]
	r.text = r.text[n:]
	r.ok = r.ok && n > 0
	return out
}

func isDigit(c byte) bool { return c >= '0' && c <= '9' }

func isNameByte(c byte) bool {
	return isDigit(c) || c == '_' || c >= 'a' && c <= 'z' || c >= 'A' && c <= 'Z'
}

func (r *reader) read() api.Type {
	if !r.ok {
		return api.Type{}
	}
	for kind, s := range simple {
		if r.taken(s) {
			return api.Type{Kind: kind}
		}
	}
	switch {
	case r.taken("?"):
		s := r.run(isDigit)
		r.ok = r.ok && len(s) <= 3 && (s == "0" || s[0] != '0')
		n, _ := strconv.Atoi(s)
		return api.Type{Kind: api.TypeVar, N: n}
	case r.taken("{"):
		t := r.read()
		r.take("}")
		return api.Type{Kind: api.TypeSet, Parts: []api.Type{t}}
	case r.taken("("):
		a := r.read()
		r.take(" -> ")
		b := r.read()
		r.take(")")
		return api.Type{Kind: api.TypeFunc, Parts: []api.Type{a, b}}
	case r.taken("<<"):
		return r.list(api.TypeTuple, ">>")
	case r.taken("["):
		return r.list(api.TypeRecord, "]")
	}
	r.ok = false
	return api.Type{}
}

// list reads the parts of a tuple or a record.
func (r *reader) list(kind int, end string) api.Type {
	t := api.Type{Kind: kind}
	for r.ok && !(len(t.Parts) == 0 && kind == api.TypeTuple && strings.HasPrefix(r.text, end)) {
		if kind == api.TypeRecord {
			t.Names = append(t.Names, r.run(isNameByte))
			r.take(": ")
		}
		p := r.read()
		t.Parts = append(t.Parts, p)
		if !r.taken(", ") {
			break
		}
	}
	r.take(end)
	return t
}
