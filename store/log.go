package store

import (
	"slices"
	"strconv"
	"strings"

	"stutter/api"
)

// The disk is a log: the block with a number has the record with this number, which is an entry or a take. A record names the life that wrote it, and the hash of the record before it, so that records that an earlier life left behind a lost one do not follow those that are written later. Its own hash, at its end, tells whether it was written whole.

// The lengths of the parts of a record, in their order; the payload stands before the hash.
const (
	signLength  = 1
	indexLength = 3
	lifeLength  = 2
	sizeLength  = 3
	hashLength  = 16
	headLength  = signLength + indexLength + lifeLength + sizeLength + hashLength
	fromLength  = 3
	actLength   = 2
	maxLife     = 99
)

// record is what a block says.
type record struct {
	life         int
	before, hash string
	payload      string
	whole, torn  bool // torn: not whole, but it may be the beginning of a record
	mixed        bool // torn: as long as it should be, so that an older record must have been there
}

// padded is a number with so many digits.
func padded(n, digits int) string {
	s := strconv.Itoa(n)
	return strings.Repeat("0", max(0, digits-len(s))) + s
}

// hashOf is a hash of 64 bits, as 16 digits.
func hashOf(s string) string {
	h := uint64(14695981039346656037)
	for _, b := range []byte(s) {
		h = (h ^ uint64(b)) * 1099511628211
	}
	out := strconv.FormatUint(h, 16)
	return strings.Repeat("0", hashLength-len(out)) + out
}

// blockOf is the block of a record.
func blockOf(index, life int, before, payload string) string {
	s := "S" + padded(index, indexLength) + padded(life, lifeLength) + padded(len(payload), sizeLength) + before + payload
	return s + hashOf(s)
}

// payloadOf is what a record of an operation says.
func payloadOf(op api.StoreOp, packed string) string {
	if op.Kind == api.StoreTake {
		return "T"
	}
	from := strings.Repeat("-", fromLength)
	if op.From != api.None {
		from = padded(op.From, fromLength)
	}
	return "P" + from + padded(op.Action, actLength) + packed
}

// digits reads a number of so many digits, of which the text may have fewer; false if something else stands there.
func digits(s string, from, length int) (int, bool) {
	if from >= len(s) {
		return 0, true
	}
	part := s[from:min(len(s), from+length)]
	n := 0
	for _, c := range []byte(part) {
		if c < '0' || c > '9' {
			return 0, false
		}
		n = n*10 + int(c-'0')
	}
	return n, true
}

// read reads the block with a number; false if it can be no part of a record.
func read(block string, index int) (record, bool) {
	if block == "" {
		return record{torn: true}, true
	}
	at, okIndex := digits(block, signLength, indexLength)
	life, okLife := digits(block, signLength+indexLength, lifeLength)
	size, okSize := digits(block, signLength+indexLength+lifeLength, sizeLength)
	expected := padded(index, indexLength)
	have := block[signLength:min(len(block), signLength+indexLength)]
	if block[0] != 'S' || !okIndex || !okLife || !okSize || !strings.HasPrefix(expected, have) || len(have) == indexLength && at != index {
		return record{}, false
	}
	length := headLength + size + hashLength
	if len(block) < headLength || len(block) < length {
		return record{torn: true, life: life}, life > 1 || isBeginning(block, size)
	}
	r := record{life: life, before: block[headLength-hashLength : headLength], payload: block[headLength : headLength+size]}
	r.hash = block[headLength+size : length]
	r.whole = len(block) == length && hashOf(block[:headLength+size]) == r.hash
	r.torn, r.mixed = !r.whole, !r.whole
	return r, true
}

// isBeginning says whether a block that is too short may be the beginning of a record with a payload of some size.
func isBeginning(block string, size int) bool {
	if len(block) <= headLength {
		return true
	}
	payload := block[headLength:min(len(block), headLength+size)]
	switch payload[0] {
	case 'T':
		return size == 1
	case 'P':
		head := 1 + fromLength + actLength
		if len(payload) <= head {
			return true
		}
		_, length, complete := unpackFirst(payload[head:])
		return !complete || head+length == size
	}
	return false
}

// journal is a log that was read: the store, how many records it has, the hash of the last one, and the greatest life on the disk.
type journal struct {
	*memory
	records, life int
	last          string
}

// apply does what a payload says; false if it can say nothing like this.
func (j *journal) apply(payload string) bool {
	if payload == "T" {
		return j.do(api.StoreOp{Kind: api.StoreTake}).Entry != api.None
	}
	head := 1 + fromLength + actLength
	if len(payload) < head || payload[0] != 'P' {
		return false
	}
	state, err := Unpack(payload[head:])
	op := api.StoreOp{State: state, From: api.None}
	from := payload[1 : 1+fromLength]
	ok := true
	if from != strings.Repeat("-", fromLength) {
		op.From, ok = digits(payload, 1, fromLength)
	}
	action, ok2 := digits(payload, 1+fromLength, actLength)
	op.Action = action
	if err != api.OK || !ok || !ok2 || j.check(op) != api.OK {
		return false
	}
	return j.do(op).New
}

// recovered reads the log on a disk.
func recovered(content []string) (*journal, api.Errno) {
	if err := checkContent(content); err != api.OK {
		return nil, err
	}
	j := &journal{memory: memoryOf(api.StoreState{}), last: hashOf("")}
	var records []record
	whole := api.MaxStoreLives // records of so many lives may have been lost
	for i, block := range content {
		r, ok := read(block, i)
		if !ok || len(block) >= signLength+indexLength+lifeLength && r.life < 1 {
			return nil, api.ErrTorn
		}
		j.life = max(j.life, r.life)
		if r.whole {
			whole = max(whole, r.life)
		}
		records = append(records, r)
	}
	for _, r := range records {
		tooLate := r.torn && r.life > whole+1
		if tooLate || r.mixed && r.life < 2 {
			return nil, api.ErrTorn
		}
	}
	for _, r := range records {
		if !r.whole || r.before != j.last {
			break
		}
		if !j.apply(r.payload) {
			return nil, api.ErrTorn
		}
		j.last = r.hash
		j.records++
	}
	return j, api.OK
}

// RecoverFrom returns the store on a disk.
func RecoverFrom(content []string) (api.StoreState, api.Errno) {
	j, err := recovered(content)
	if err != api.OK {
		return api.StoreState{}, err
	}
	return j.StoreState, api.OK
}

// WritesOf returns the writes of a store that was recovered, and gets operations.
func WritesOf(content []string, l []api.StoreOp) ([]api.DiskWrite, api.Errno) {
	j, err := recovered(content)
	if err != api.OK {
		return nil, err
	}
	life := j.life + 1
	var out []api.DiskWrite
	err = j.doAll(l, func(op api.StoreOp, r api.StoreResult) {
		switch {
		case op.Kind == api.StoreSync:
			out = append(out, api.DiskWrite{Kind: api.DiskSync})
		case r.New || op.Kind == api.StoreTake && r.Entry != api.None:
			packed := ""
			if r.New {
				packed = j.Entries[r.Entry].Packed
			}
			block := blockOf(j.records, life, j.last, payloadOf(op, packed))
			out = append(out, api.DiskWrite{Kind: api.DiskPut, Block: j.records, Bytes: block})
			j.last = block[len(block)-hashLength:]
			j.records++
		}
	})
	if err != api.OK {
		return nil, err
	}
	if len(j.Entries) > api.MaxStoreOps || life > maxLife {
		return nil, api.ErrFull
	}
	return slices.Clip(out), api.OK
}
