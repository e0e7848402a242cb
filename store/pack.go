package store

import (
	"strconv"
	"strings"

	"stutter/api"
	"stutter/value"
)

// packValue is the packed form of a value.
func packValue(v api.Value) string {
	text := func(sign string) string { return sign + counted(len(v.S), v.S) }
	switch v.Kind {
	case api.ValueBool:
		if v.N == 1 {
			return "T"
		}
		return "F"
	case api.ValueInt:
		return "i" + strconv.Itoa(v.N) + ";"
	case api.ValueString:
		return text("s")
	case api.ValueModel:
		return text("m")
	case api.ValueSet:
		return "{" + counted(len(v.Items), packAll(v.Items...)) + "}"
	}
	var pairs strings.Builder
	for i, k := range v.Keys {
		pairs.WriteString(packAll(k, v.Items[i]))
	}
	return "[" + counted(len(v.Keys), pairs.String()) + "]"
}

// packAll is the packed forms of values, one behind the other.
func packAll(l ...api.Value) string {
	var b strings.Builder
	for _, v := range l {
		b.WriteString(packValue(v))
	}
	return b.String()
}

// counted is how many parts follow, and these.
func counted(many int, parts string) string { return strconv.Itoa(many) + ":" + parts }

// Pack returns the packed form of a state.
func Pack(s api.State) (string, api.Errno) {
	if len(s) > api.MaxVars {
		return "", api.ErrLarge
	}
	for _, v := range s {
		if value.CheckValue(v) != api.OK {
			return "", api.ErrForm
		}
	}
	out := counted(len(s), packAll(s...))
	if len(out) > api.MaxPacked {
		return "", api.ErrLarge
	}
	return out, api.OK
}

// unpacker reads a packed form; ok says whether it has been one so far.
type unpacker struct {
	text string
	ok   bool
}

// until takes what comes before a sign, and the sign.
func (u *unpacker) until(sign string) string {
	before, after, found := strings.Cut(u.text, sign)
	u.ok = u.ok && found
	u.text = after
	return before
}

// take takes a sign.
func (u *unpacker) take(sign string) {
	rest, found := strings.CutPrefix(u.text, sign)
	u.ok = u.ok && found
	u.text = rest
}

// number takes a number up to a sign.
func (u *unpacker) number(sign string) int {
	n, err := strconv.Atoi(u.until(sign))
	u.ok = u.ok && err == nil
	return n
}

// count takes how many parts follow; each has a character at least.
func (u *unpacker) count() int {
	n := u.number(":")
	u.ok = u.ok && n >= 0 && n <= len(u.text)
	if !u.ok {
		return 0
	}
	return n
}

// value takes a value.
func (u *unpacker) value() api.Value {
	if !u.ok || u.text == "" {
		u.ok = false
		return api.Value{}
	}
	kind := u.text[0]
	u.text = u.text[1:]
	switch kind {
	case 'F':
		return api.Value{Kind: api.ValueBool}
	case 'T':
		return api.Value{Kind: api.ValueBool, N: 1}
	case 'i':
		return api.Value{Kind: api.ValueInt, N: u.number(";")}
	case 's', 'm':
		n := u.count()
		v := api.Value{Kind: api.ValueString, S: u.text[:n]}
		if kind == 'm' {
			v.Kind = api.ValueModel
		}
		u.text = u.text[n:]
		return v
	case '{':
		v := api.Value{Kind: api.ValueSet}
		for n := u.count(); n > 0 && u.ok; n-- {
			item := u.value()
			v.Items = append(v.Items, item)
		}
		u.take("}")
		return v
	case '[':
		v := api.Value{Kind: api.ValueFunc}
		for n := u.count(); n > 0 && u.ok; n-- {
			key := u.value()
			item := u.value()
			v.Keys, v.Items = append(v.Keys, key), append(v.Items, item)
		}
		u.take("]")
		return v
	}
	u.ok = false
	return api.Value{}
}

// unpackFirst returns the state whose packed form a text begins with, and its length; false if there is none.
func unpackFirst(s string) (api.State, int, bool) {
	u := &unpacker{text: s, ok: true}
	var out api.State
	for n := u.count(); n > 0 && u.ok; n-- {
		v := u.value()
		out = append(out, v)
	}
	length := len(s) - len(u.text)
	again, err := Pack(out)
	return out, length, u.ok && err == api.OK && again == s[:length]
}

// Unpack returns the state with a packed form.
func Unpack(s string) (api.State, api.Errno) {
	if len(s) > api.MaxPacked {
		return nil, api.ErrLarge
	}
	out, length, ok := unpackFirst(s)
	if !ok || length != len(s) {
		return nil, api.ErrSyntax
	}
	return out, api.OK
}

// The factor of fingerprints; their modulus is api.MaxPrint.
const printFactor = 131

// fingerprint is the fingerprint of a string.
func fingerprint(s string, seed int) int {
	for _, b := range []byte(s) {
		seed = (seed*printFactor + int(b) + 1) % api.MaxPrint
	}
	return seed
}

// FingerprintOf returns the fingerprint of a string with a seed.
func FingerprintOf(s string, seed int) (int, api.Errno) {
	if len(s) > api.MaxStoredBytes {
		return 0, api.ErrLarge
	}
	if seed < 0 || seed >= api.MaxPrint {
		return 0, api.ErrRange
	}
	return fingerprint(s, seed), api.OK
}
