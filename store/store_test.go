package store

import (
	"math/rand"
	"reflect"
	"slices"
	"strings"
	"testing"

	"stutter/api"
	"stutter/values"
)

func put(n, from, action int) api.StoreOp {
	return api.StoreOp{Kind: api.StorePut, From: from, Action: action, State: api.State{values.Int(n)}}
}

var take, sync = api.StoreOp{Kind: api.StoreTake}, api.StoreOp{Kind: api.StoreSync}

func TestPack(t *testing.T) {
	one, two := values.Int(1), values.Int(2)
	for want, s := range map[string]api.State{
		"0:": nil, "2:T{2:i1;i2;}": {values.Bool(true), values.Set(two, one)}, "1:F": {values.Bool(false)}, "1:i-10000;": {values.Int(-10000)}, "1:s3:a:;": {values.String("a:;")}, "1:m2:ab": {values.Model("ab")}, "1:{0:}": {values.Set()}, "1:[2:i1;i2;i2;s0:]": {values.Tuple(two, values.String(""))}, "1:[0:]": {values.Tuple()},
	} {
		got, err := Pack(s)
		if got != want || err != api.OK {
			t.Errorf("%s: %s %d", want, got, err)
		}
		if back, err := Unpack(want); !values.SameState(back, s) || err != api.OK {
			t.Errorf("%s: back %v %d", want, back, err)
		}
	}
	for _, s := range []string{"", "1:", "0:T", "1:i01;", "1:i-0;", "1:i+1;", "1:i1", "01:T", "1:s2:a", "1:{2:i2;i1;}", "1:{2:i1;i1;}", "1:[1:i1;]", "1:x", "1:i20000;", "9:TTTTTTTTT", "1:m1:1", "-1:", "1:{1:i1;", "1:{300:i1;}", " 1:T", "1:s99999999999999999999:"} {
		if _, err := Unpack(s); err != api.ErrSyntax {
			t.Errorf("%q: %d", s, err)
		}
	}
	_, e1 := Pack(make(api.State, 9))
	_, e2 := Pack(api.State{{Kind: 9}})
	long := values.Set()
	for i := range 60 {
		long.Items = append(long.Items, values.Int(1000+i))
	}
	_, e3 := Pack(api.State{long})
	_, e4 := Unpack(strings.Repeat(" ", 301))
	if e1 != api.ErrLarge || e2 != api.ErrForm || e3 != api.ErrLarge || e4 != api.ErrLarge {
		t.Error(e1, e2, e3, e4)
	}
	exact := api.State{values.String(strings.Repeat("a", 40)), values.String(strings.Repeat("a", 40)), values.String(strings.Repeat("a", 40)), values.String(strings.Repeat("a", 40)), values.String(strings.Repeat("a", 40)), values.String(strings.Repeat("a", 40)), values.String(strings.Repeat("a", 32)), values.Bool(true)}
	if s, err := Pack(exact); len(s) != 2+6*44+36+1 && err == api.OK {
		t.Error(len(s), err)
	}
}

func TestFingerprints(t *testing.T) {
	for s, want := range map[string]int{"": 0, "A": 66, "AB": 8713} {
		if n, err := FingerprintOf(s, 0); n != want || err != api.OK {
			t.Errorf("%s: %d %d", s, n, err)
		}
	}
	if n, err := FingerprintOf("A", 65520); n != (65520*131+66)%65521 || err != api.OK {
		t.Error(n, err)
	}
	_, e1 := FingerprintOf(strings.Repeat("a", 40001), -1)
	_, e2 := FingerprintOf("", -1)
	_, e3 := FingerprintOf("", 65521)
	_, e4 := FingerprintOf(strings.Repeat("a", 40000), 0)
	if e1 != api.ErrLarge || e2 != api.ErrRange || e3 != api.ErrRange || e4 != api.OK {
		t.Error(e1, e2, e3, e4)
	}
}

func TestRunOf(t *testing.T) {
	r, err := RunOf([]api.StoreOp{put(1, -1, 0), put(2, 0, 1), put(1, -1, 0), take, sync, take, take})
	want := []api.StoreResult{{Entry: 0, New: true}, {Entry: 1, New: true}, {}, {}, {Entry: -1}, {Entry: 1}, {Entry: -1}}
	if !slices.Equal(r.Results, want) || r.State.Taken != 2 || len(r.State.Entries) != 2 || r.State.Entries[1] != (api.StoreEntry{Packed: "1:i2;", From: 0, Action: 1}) || err != api.OK {
		t.Error(r, err)
	}
	if trace, err := TraceIn(r.State, 1); !slices.Equal(trace, []int{0, 1}) || err != api.OK {
		t.Error(trace, err)
	}
	for i, c := range []struct {
		l   []api.StoreOp
		err api.Errno
	}{{make([]api.StoreOp, 61), api.ErrLarge}, {[]api.StoreOp{{Kind: 3}}, api.ErrKind}, {[]api.StoreOp{{Kind: -1}}, api.ErrKind}, {[]api.StoreOp{{State: api.State{{Kind: 9}}, Action: 99}}, api.ErrForm}, {[]api.StoreOp{put(1, 9, 12)}, api.ErrRange}, {[]api.StoreOp{put(1, 0, 0)}, api.ErrMissing}, {[]api.StoreOp{put(1, -1, 0), put(2, 1, 0)}, api.ErrMissing}, {[]api.StoreOp{{Kind: api.StoreTake, From: 1}}, api.ErrForm}, {[]api.StoreOp{{Kind: api.StoreSync, Action: 1}}, api.ErrForm}, {[]api.StoreOp{{Kind: api.StoreSync, State: api.State{{}}}}, api.ErrForm}} {
		if _, err := RunOf(c.l); err != c.err {
			t.Errorf("%d: %d", i, err)
		}
		if _, err := WritesOf(nil, c.l); err != c.err {
			t.Errorf("%d: writes %d", i, err)
		}
	}
	// two states with one fingerprint
	seen := map[int]int{}
	for a := -10000; a <= 10000; a++ {
		for b := range 5 {
			s, _ := Pack(api.State{values.Int(a), values.Int(b)})
			n, _ := FingerprintOf(s, 0)
			if old, is := seen[n]; is {
				x := api.StoreOp{From: -1, State: api.State{values.Int(old / 5), values.Int(old % 5)}}
				y := api.StoreOp{From: -1, State: api.State{values.Int(a), values.Int(b)}}
				if old < 0 {
					continue
				}
				r, err := RunOf([]api.StoreOp{x, y, x})
				if err != api.OK || r.Results[0].Collision || !r.Results[1].Collision || !r.Results[2].Collision || !r.Results[1].New {
					t.Error(r, err)
				}
				return
			}
			seen[n] = a*5 + b
		}
	}
	t.Error("no collision")
}

func TestTraceIn(t *testing.T) {
	e := func(packed string, from, action int) api.StoreEntry {
		return api.StoreEntry{Packed: packed, From: from, Action: action}
	}
	for i, c := range []struct {
		s     api.StoreState
		entry int
		err   api.Errno
	}{{api.StoreState{Entries: make([]api.StoreEntry, 401)}, 0, api.ErrLarge}, {api.StoreState{Entries: []api.StoreEntry{e("x", -1, 0)}}, 0, api.ErrSyntax}, {api.StoreState{Entries: []api.StoreEntry{e("0:", 5, 12)}}, 0, api.ErrRange}, {api.StoreState{Entries: []api.StoreEntry{e("0:", 0, 0)}}, 0, api.ErrMissing}, {api.StoreState{Entries: []api.StoreEntry{e("0:", -1, 0), e("0:", 0, 0)}}, 0, api.ErrDouble},
		{api.StoreState{Entries: []api.StoreEntry{e("0:", -1, 0)}, Taken: 2}, 0, api.ErrRange}, {api.StoreState{Taken: -1}, 0, api.ErrRange}, {api.StoreState{Entries: []api.StoreEntry{e("0:", -1, 0)}}, 1, api.ErrMissing}, {api.StoreState{}, -1, api.ErrMissing}, {api.StoreState{Entries: []api.StoreEntry{e("0:", -1, 0)}, Taken: 1}, 0, api.OK}} {
		if _, err := TraceIn(c.s, c.entry); err != c.err {
			t.Errorf("%d: %d", i, err)
		}
	}
}

func TestContentAfter(t *testing.T) {
	w := func(block int, s string) api.DiskWrite {
		return api.DiskWrite{Kind: api.DiskPut, Block: block, Bytes: s}
	}
	end := api.DiskWrite{Kind: api.DiskSync}
	l := []api.DiskWrite{w(0, "abcdef"), end, w(0, "XYZ")}
	for i, c := range []struct {
		l     []api.DiskWrite
		crash api.DiskCrash
		want  []string
	}{{l, api.DiskCrash{Writes: 3, Fates: []int{2}}, []string{"XYcdef"}}, {l, api.DiskCrash{Writes: 3, Fates: []int{3}}, []string{"XYZ"}}, {l, api.DiskCrash{Writes: 3, Fates: []int{9}}, []string{"XYZ"}}, {l, api.DiskCrash{Writes: 3, Fates: []int{-1}}, []string{"abcdef"}}, {l, api.DiskCrash{Writes: 3}, []string{"abcdef"}}, {l, api.DiskCrash{Writes: 2}, []string{"abcdef"}}, {l, api.DiskCrash{Writes: 1}, nil}, {l, api.DiskCrash{Writes: 1, Fates: []int{4}}, []string{"abcd"}}, {l, api.DiskCrash{}, nil},
		{[]api.DiskWrite{w(2, "a"), w(1, "bc"), w(1, "d"), end, w(1, "")}, api.DiskCrash{Writes: 3, Fates: []int{-1, 2, 0}}, []string{"", "bc"}}, {[]api.DiskWrite{w(2, "a"), w(1, "bc"), end, w(2, "")}, api.DiskCrash{Writes: 4}, []string{"", "bc"}}} {
		got, err := ContentAfter(nil, c.l, c.crash)
		if !slices.Equal(got, c.want) || err != api.OK {
			t.Errorf("%d: %q %d", i, got, err)
		}
	}
	big := strings.Repeat("a", 513)
	for i, c := range []struct {
		content []string
		l       []api.DiskWrite
		crash   api.DiskCrash
		err     api.Errno
	}{{make([]string, 129), nil, api.DiskCrash{}, api.ErrLarge}, {[]string{big}, nil, api.DiskCrash{}, api.ErrLarge}, {nil, make([]api.DiskWrite, 401), api.DiskCrash{}, api.ErrLarge}, {nil, []api.DiskWrite{{Kind: 2}}, api.DiskCrash{}, api.ErrKind}, {nil, []api.DiskWrite{w(128, big)}, api.DiskCrash{}, api.ErrRange}, {nil, []api.DiskWrite{w(-1, "")}, api.DiskCrash{}, api.ErrRange}, {nil, []api.DiskWrite{w(127, big)}, api.DiskCrash{}, api.ErrLarge}, {nil, []api.DiskWrite{{Kind: api.DiskSync, Block: 1}}, api.DiskCrash{}, api.ErrForm}, {nil, []api.DiskWrite{{Kind: api.DiskSync, Bytes: "a"}}, api.DiskCrash{}, api.ErrForm}, {nil, nil, api.DiskCrash{Writes: 1}, api.ErrRange}, {nil, nil, api.DiskCrash{Writes: -1}, api.ErrRange}, {nil, nil, api.DiskCrash{Fates: make([]int, 401)}, api.ErrLarge}} {
		if _, err := ContentAfter(c.content, c.l, c.crash); err != c.err {
			t.Errorf("%d: %d", i, err)
		}
	}
}

func TestRecover(t *testing.T) {
	if s, err := RecoverFrom(nil); len(s.Entries) != 0 || s.Taken != 0 || err != api.OK {
		t.Error(s, err)
	}
	ops := []api.StoreOp{put(1, -1, 0), put(2, 0, 11), sync, take, put(1, -1, 3), put(3, 1, 0), take, take, take, sync}
	l, err := WritesOf(nil, ops)
	if err != api.OK || l[len(l)-1].Kind != api.DiskSync {
		t.Fatal(l, err)
	}
	for n := range ops {
		if part, _ := WritesOf(nil, ops[:n]); !slices.Equal(part, l[:len(part)]) {
			t.Error("no beginning", n)
		}
	}
	content, err := ContentAfter(nil, l, api.DiskCrash{Writes: len(l)})
	s, err2 := RecoverFrom(content)
	r, _ := RunOf(ops)
	if !reflect.DeepEqual(s, r.State) || err != api.OK || err2 != api.OK {
		t.Error(s, r.State, err, err2)
	}
	for i, c := range [][]string{{"x"}, {"zzzzzzzzzzzzzzzzzzzz"}, {"", "A000"}, {"A000$"}, append([]string{"T"}, content[1:]...), append(slices.Clone(content), "garbage")} {
		want := api.ErrTorn
		if i == 3 {
			want = api.OK // the beginning of a record
		}
		if _, err := RecoverFrom(c); err != want {
			t.Errorf("%d: %d", i, err)
		}
		if _, err := WritesOf(c, nil); err != want {
			t.Errorf("%d: writes %d", i, err)
		}
	}
	for i := range content[0] {
		bad := slices.Clone(content)
		bad[0] = content[0][:i] + string(content[0][i]^1) + content[0][i+1:]
		if _, err := RecoverFrom(bad); err != api.ErrTorn {
			t.Errorf("byte %d: %d", i, err)
		}
	}
	_, e1 := RecoverFrom(make([]string, 129))
	_, e2 := WritesOf(make([]string, 129), nil)
	if e1 != api.ErrLarge || e2 != api.ErrLarge {
		t.Error(e1, e2)
	}
	var many, more []api.StoreOp
	for i := range 60 {
		many = append(many, put(i, -1, 0))
		more = append(more, take)
	}
	l, err = WritesOf(nil, many)
	content, _ = ContentAfter(nil, append(l, api.DiskWrite{Kind: api.DiskSync}), api.DiskCrash{Writes: len(l) + 1})
	l, err2 = WritesOf(content, more)
	content, _ = ContentAfter(content, append(l, api.DiskWrite{Kind: api.DiskSync}), api.DiskCrash{Writes: len(l) + 1})
	s, err3 := RecoverFrom(content)
	if err != api.OK || err2 != api.OK || err3 != api.OK || s.Taken != 60 || len(s.Entries) != 60 {
		t.Error(err, err2, err3, s.Taken)
	}
	if _, err := WritesOf(content, []api.StoreOp{put(99, 0, 0)}); err != api.ErrFull {
		t.Error(err)
	}
}

func some(r *rand.Rand, entries int) []api.StoreOp {
	var out []api.StoreOp
	for range 1 + r.Intn(7) {
		switch r.Intn(5) {
		case 0:
			out = append(out, take)
		case 1:
			out = append(out, sync)
		default:
			op := put(r.Intn(12), r.Intn(entries+1)-1, r.Intn(12))
			if r.Intn(4) == 0 {
				op.State = append(op.State, values.String(strings.Repeat(string("sAB"[r.Intn(3)]), r.Intn(30))))
			}
			out = append(out, op)
		}
	}
	return out
}

// begun says whether a store is the one after a beginning of operations that has at least so many of them, and at most so many.
func begun(before api.StoreState, ops []api.StoreOp, least, most int, s api.StoreState) bool {
	for n := least; n <= most; n++ {
		m := memoryOf(before)
		m.doAll(ops[:n], func(api.StoreOp, api.StoreResult) {})
		if m.Taken == s.Taken && slices.Equal(m.Entries, s.Entries) {
			return true
		}
	}
	return false
}

// live is a life on a disk that ends with a power failure; it returns what is there then.
func live(t *testing.T, content []string, ops []api.StoreOp, fates func(writes []api.DiskWrite) api.DiskCrash) ([]string, bool) {
	t.Helper()
	before, err := RecoverFrom(content)
	if err != api.OK {
		t.Fatalf("%q: %d", content, err)
	}
	l, err := WritesOf(content, ops)
	if err == api.ErrFull {
		return nil, false
	}
	if err != api.OK {
		t.Fatalf("%q: %v: %d", content, ops, err)
	}
	c := fates(l)
	least, most := 0, 0
	for n := range len(ops) + 1 {
		part, _ := WritesOf(content, ops[:n])
		if len(part) <= c.Writes {
			most = n
			if n > 0 && ops[n-1].Kind == api.StoreSync {
				least = n
			}
		}
	}
	after, err := ContentAfter(content, l, c)
	s, err2 := RecoverFrom(after)
	if err != api.OK || err2 != api.OK || !begun(before, ops, least, most, s) {
		t.Fatalf("%v %v from %v: %v %d %d\n%q\n%q", ops, c, before, s, err, err2, content, after)
	}
	return after, true
}

func TestCrashes(t *testing.T) {
	r := rand.New(rand.NewSource(6))
	for range 2000 {
		var content []string
		for range 1 + r.Intn(9) {
			s, _ := RecoverFrom(content)
			ops := some(r, len(s.Entries))
			var ok bool
			content, ok = live(t, content, ops, func(l []api.DiskWrite) api.DiskCrash {
				c := api.DiskCrash{Writes: r.Intn(len(l) + 1)}
				for range c.Writes {
					c.Fates = append(c.Fates, []int{-1, 0, 1000, r.Intn(70), r.Intn(12)}[r.Intn(5)])
				}
				return c
			})
			if !ok {
				t.Fatal("full")
			}
		}
	}
}

// TestAllFates ends three lives of a put each with all fates, of records of several lengths, with marks in their texts.
func TestAllFates(t *testing.T) {
	var ops [][]api.StoreOp
	for _, s := range []string{"", "A", "BBBBBBBB"} {
		ops = append(ops, []api.StoreOp{{From: -1, State: api.State{values.String(s)}}})
	}
	type disk struct {
		content string
		lives   int
	}
	seen := map[disk]bool{}
	var further func(content []string, lives int)
	further = func(content []string, lives int) {
		at := disk{strings.Join(content, "\n"), lives}
		if lives == 3 || seen[at] {
			return
		}
		seen[at] = true
		for _, op := range ops[lives/2:] {
			for n := 0; n <= 50; n++ {
				after, _ := live(t, content, op, func(l []api.DiskWrite) api.DiskCrash {
					return api.DiskCrash{Writes: len(l), Fates: []int{n}}
				})
				further(after, lives+1)
			}
		}
	}
	further(nil, 0)
}

// TestManyLives has lives that are torn again and again, until there are too many; three lives are never too many.
func TestManyLives(t *testing.T) {
	for done := range 60 {
		var content []string
		for i := range 300 {
			ops := []api.StoreOp{put(7, -1, 0), put(i%8, -1, 0)}
			after, ok := live(t, content, ops, func(l []api.DiskWrite) api.DiskCrash {
				return api.DiskCrash{Writes: len(l), Fates: []int{0, done, done}[i%2:]}
			})
			if !ok && i < api.MaxStoreLives {
				t.Fatal("full", done, i)
			}
			if !ok {
				break
			}
			content = after
		}
	}
}

// TestMixtures has blocks with the first bytes of a record and the last ones of an older content: none of them is a whole record, whatever its hash says.
func TestMixtures(t *testing.T) {
	var payloads []string
	for _, s := range []string{"", "a", "b", "A", "B", "AAAAAAAAAAAA", "bbbbbbbbbbbb"} {
		packed, _ := Pack(api.State{values.String(s)})
		payloads = append(payloads, payloadOf(api.StoreOp{From: api.None}, packed), payloadOf(api.StoreOp{From: 2, Action: 11}, packed))
	}
	payloads = append(payloads, "T")
	olds := []string{""}
	for _, p := range payloads {
		block := blockOf(markFor(""), 5, 1, p)
		olds = append(olds, block, block[:len(block)-1], block[:9], block[:3], "B"+block[1:], "B"+block[1:len(block)-1])
	}
	for _, old := range olds {
		if _, ok := read(old, 5); !ok {
			t.Fatalf("%q", old)
		}
		for _, p := range payloads {
			block := blockOf(markFor(old), 5, 2, p)
			for n := range block {
				mixed := written(old, block, n)
				r, ok := read(mixed, 5)
				if !ok || r.whole && mixed != old {
					t.Fatalf("%q over %q, %d: %v %v", block, old, n, r, ok)
				}
				end := len(mixed) > 0 && mixed[len(mixed)-1] == mixed[0]
				if n > 0 && n < len(old) && end {
					t.Fatalf("%q over %q, %d: it ends as it begins", block, old, n)
				}
			}
			if r, ok := read(block, 5); !r.whole || r.payload != p || r.life != 2 || !ok {
				t.Fatalf("%q: %v %v", block, r, ok)
			}
		}
	}
}

// TestTorn has blocks that no writes can have left.
func TestTorn(t *testing.T) {
	good := blockOf("A", 1, 1, "P---001:i1;")
	for _, s := range []string{good + "A", good + "B", "B" + good, good[:8] + "9" + good[9:], "A001!011Q", "A001!011P--0", "A001!011P001", "A001!011P---12", "A001!012" + good[8:], "A002!", "A001 011", "A001!0x1", "A001!999P---001:", "A001\"011P\x7f", "C001", "A001!000", "B001!011P---001:i1;Q", blockOf("A", 1, 1, "P001001:i1;"), blockOf("A", 1, 1, "P---121:i1;"), blockOf("A", 1, 1, "P---001:i1"), blockOf("A", 1, 1, "TT")} {
		if _, err := RecoverFrom([]string{"", s}); err != api.ErrTorn {
			t.Errorf("%q: %d", s, err)
		}
	}
	for i := range good {
		for _, s := range []string{good[:i], "B" + good[1:i+1], "B001\"01" + good[7:]} {
			if _, err := RecoverFrom([]string{"", s}); err != api.OK {
				t.Errorf("%q: %d", s, err)
			}
		}
	}
	if _, err := RecoverFrom([]string{blockOf("A", 0, 1, "T")}); err != api.ErrTorn {
		t.Error(err)
	}
	twice := []string{blockOf("A", 0, 1, "P---001:i1;"), blockOf("A", 1, 1, "P---001:i1;")}
	if _, err := RecoverFrom(twice); err != api.ErrTorn {
		t.Error(err)
	}
	var far []string
	for range maxRecords {
		far = append(far, "")
	}
	if _, err := RecoverFrom(append(far, "A120")); err != api.ErrTorn {
		t.Error(err)
	}
}
