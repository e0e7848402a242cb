package whole

import (
	"fmt"
	"math/rand"
	"reflect"
	"sort"
	"strconv"
	"strings"
	"testing"

	"stutter/api"
)

// context is values by their types that were arguments, or results, of calls one after the other.
type context map[reflect.Type][]reflect.Value

// caller makes arguments: such ones as went well together, other ones, and ones that were changed somewhere.
type caller struct {
	*rand.Rand
	contexts []context
}

const (
	maxKept     = 8    // values of a type in a context
	maxContexts = 2000 // contexts
	maxDepth    = 14   // how deep values are looked at, since they may contain themselves
)

func (c context) keep(v reflect.Value, depth int) {
	if depth > 3 {
		return
	}
	switch v.Kind() {
	case reflect.Slice:
		for i := range min(v.Len(), 4) {
			c.keep(v.Index(i), depth+1)
		}
	case reflect.Struct:
		for i := range v.NumField() {
			c.keep(v.Field(i), depth+1)
		}
	}
	l := c[v.Type()]
	if len(l) == maxKept {
		l = l[1:]
	}
	c[v.Type()] = append(l[:len(l):len(l)], v)
}

func (c *caller) arguments(f reflect.Type) ([]reflect.Value, context) {
	known := c.contexts[c.Intn(len(c.contexts))]
	changes := c.Intn(3) == 0
	var args []reflect.Value
	for i := range f.NumIn() {
		t := f.In(i)
		v := c.made(t, 0)
		if l := known[t]; len(l) > 0 && c.Intn(12) > 0 {
			v = l[c.Intn(len(l))]
		}
		if changes && c.Intn(2) == 0 {
			next := reflect.New(t).Elem()
			next.Set(copied(v, 0))
			c.change(next, 0)
			if c.Intn(3) == 0 {
				c.tie(next, 0)
			}
			v = next
		}
		args = append(args, v)
	}
	return args, known
}

// made returns a value of a type that may be anything.
func (c *caller) made(t reflect.Type, depth int) reflect.Value {
	v := reflect.New(t).Elem()
	switch t.Kind() {
	case reflect.Int:
		v.SetInt(int64([]int{-1, 0, 0, 1, 1, 2, 3, 5, 12, 61, 401, 10001, 1 << 40, -1 << 62}[c.Intn(14)]))
	case reflect.Bool:
		v.SetBool(c.Intn(2) == 0)
	case reflect.String:
		v.SetString([]string{"x", "y", "S", "F", "M", "A", "TRUE", "", "1", "M!x", "a b", "\\A", "+", "Done", "(p0 ~> p1)", "<<1, 2>>", "-1:A;66;", "pc"}[c.Intn(18)])
	case reflect.Slice:
		if depth > 5 {
			return v
		}
		for range c.Intn(4) {
			v = reflect.Append(v, c.made(t.Elem(), depth+1))
		}
	case reflect.Struct:
		for i := range t.NumField() {
			v.Field(i).Set(c.made(t.Field(i).Type, depth+1))
		}
	}
	return v
}

// change changes something within a value.
func (c *caller) change(v reflect.Value, depth int) {
	switch n := 0; v.Kind() {
	case reflect.Slice:
		n = v.Len()
		switch at := c.Intn(6); {
		case at == 0 && n > 0:
			v.Set(v.Slice(0, n-1))
		case at == 1:
			v.Set(reflect.Append(v, c.made(v.Type().Elem(), 4)))
		case at == 2 && n > 0:
			v.Set(reflect.Append(v, v.Index(c.Intn(n))))
		case n > 0 && depth < 8:
			c.change(v.Index(c.Intn(n)), depth+1)
		}
	case reflect.Struct:
		if v.NumField() > 0 {
			c.change(v.Field(c.Intn(v.NumField())), depth+1)
		}
	default:
		v.Set(c.made(v.Type(), 0))
	}
}

// tie makes a list contain itself, if its type permits that.
func (c *caller) tie(v reflect.Value, depth int) bool {
	if depth > 6 {
		return false
	}
	switch v.Kind() {
	case reflect.Slice:
		return v.Len() > 0 && (embed(v, v, 0) || c.tie(v.Index(c.Intn(v.Len())), depth+1))
	case reflect.Struct:
		for i := range v.NumField() {
			if c.tie(v.Field(i), depth+1) {
				return true
			}
		}
	}
	return false
}

func embed(v, list reflect.Value, depth int) bool {
	if depth > 5 {
		return false
	}
	switch v.Kind() {
	case reflect.Slice:
		if depth > 0 && v.Type() == list.Type() && v.CanSet() {
			v.Set(list)
			return true
		}
		for i := range v.Len() {
			if embed(v.Index(i), list, depth+1) {
				return true
			}
		}
	case reflect.Struct:
		for i := range v.NumField() {
			if embed(v.Field(i), list, depth+1) {
				return true
			}
		}
	}
	return false
}

func copied(v reflect.Value, depth int) reflect.Value {
	out := reflect.New(v.Type()).Elem()
	switch v.Kind() {
	case reflect.Slice:
		if depth > maxDepth {
			return out
		}
		for i := range v.Len() {
			out = reflect.Append(out, copied(v.Index(i), depth+1))
		}
	case reflect.Struct:
		for i := range v.NumField() {
			out.Field(i).Set(copied(v.Field(i), depth+1))
		}
	default:
		out.Set(v)
	}
	return out
}

// show writes a value, as far as it is not too large or too deep.
func show(v reflect.Value, out *strings.Builder, depth int) {
	if depth > maxDepth || out.Len() > 40000 {
		return
	}
	switch v.Kind() {
	case reflect.Slice:
		out.WriteString("[")
		for i := range v.Len() {
			show(v.Index(i), out, depth+1)
			out.WriteString(" ")
		}
		out.WriteString("]")
	case reflect.Struct:
		out.WriteString("{")
		for i := range v.NumField() {
			show(v.Field(i), out, depth+1)
			out.WriteString(" ")
		}
		out.WriteString("}")
	case reflect.String:
		out.WriteString(strconv.Quote(v.String()))
	default:
		fmt.Fprint(out, v.Interface())
	}
}

func shown(l []reflect.Value) string {
	var out strings.Builder
	for _, v := range l {
		show(v, &out, 0)
		out.WriteString("; ")
	}
	return out.String()
}

// memory is where a list lies.
type memory struct{ from, to uintptr }

func memories(v reflect.Value, out *[]memory, depth int) {
	if depth > maxDepth || len(*out) > 4000 {
		return
	}
	switch v.Kind() {
	case reflect.Slice:
		if size := v.Type().Elem().Size(); v.Cap() > 0 && size > 0 {
			*out = append(*out, memory{v.Pointer(), v.Pointer() + uintptr(v.Cap())*size})
		}
		for i := range v.Len() {
			memories(v.Index(i), out, depth+1)
		}
	case reflect.Struct:
		for i := range v.NumField() {
			memories(v.Field(i), out, depth+1)
		}
	}
}

// share says whether lists of results lie where others do, or those of arguments.
func share(args, results []reflect.Value) bool {
	var given, all []memory
	for _, v := range args {
		memories(v, &given, 0)
	}
	for _, v := range results {
		memories(v, &all, 0)
	}
	sort.Slice(all, func(i, j int) bool { return all[i].from < all[j].from })
	for i, m := range all {
		if i > 0 && m.from < all[i-1].to {
			return true
		}
		for _, g := range given {
			if m.from < g.to && g.from < m.to {
				return true
			}
		}
	}
	return false
}

func called(f reflect.Value, args []reflect.Value) (out []reflect.Value, panicked any) {
	defer func() { panicked = recover() }()
	return f.Call(args), nil
}

// zero says whether results are zero but for an error, an index, and what tells a place.
func zero(name string, results []reflect.Value) bool {
	for _, v := range results[:len(results)-1] {
		switch x := v.Interface().(type) {
		case int, api.TextPlace, api.ScopePlace, api.PlusPlace, api.ReduceFault, api.ReduceClash, api.RefineFault, api.OpenFault:
			continue
		case api.EvalResult:
			x.At = 0
			v = reflect.ValueOf(x)
		case []int:
			if strings.HasPrefix(name, "proof.") {
				continue
			}
		}
		if v.Kind() == reflect.Slice && v.Len() > 0 || v.Kind() != reflect.Slice && !v.IsZero() {
			return false
		}
	}
	return true
}

// TestAll calls all functions with arguments of many kinds: they end, without a panic; they change no argument, share no memory, and return the same again; with an error nothing else but an index, a place or a number is there.
func TestAll(t *testing.T) {
	c := &caller{Rand: rand.New(rand.NewSource(1))}
	for _, l := range fixtures(t) {
		known := context{}
		for _, x := range l {
			known.keep(reflect.ValueOf(x), 0)
		}
		c.contexts = append(c.contexts, known, known, known, known, known)
	}
	first := len(c.contexts)
	for range 250 {
		for _, fn := range functions {
			f := reflect.ValueOf(fn.f)
			args, known := c.arguments(f.Type())
			before := shown(args)
			results, panicked := called(f, args)
			switch {
			case panicked != nil:
				t.Fatal(fn.name, "panics:", panicked, before)
			case shown(args) != before:
				t.Fatal(fn.name, "changes an argument:", before)
			case share(args, results):
				t.Fatal(fn.name, "shares memory:", before)
			}
			last := results[len(results)-1]
			err, is := last.Interface().(api.Errno)
			if is && err != api.OK && !zero(fn.name, results) {
				t.Fatal(fn.name, "returns more than an error:", before, shown(results))
			}
			if c.Intn(4) == 0 {
				if again, _ := called(f, args); shown(again) != shown(results) {
					t.Fatal(fn.name, "returns another result:", before)
				}
			}
			if !is || err != api.OK || len(before) > 20000 {
				continue
			}
			next := context{}
			for t, l := range known {
				next[t] = l
			}
			for _, v := range append(args, results[:len(results)-1]...) {
				next.keep(copied(v, 0), 0)
			}
			if len(c.contexts) < maxContexts {
				c.contexts = append(c.contexts, next)
			} else {
				c.contexts[first+c.Intn(maxContexts-first)] = next
			}
		}
	}
}
