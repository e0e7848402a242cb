package store

import (
	"slices"
	"strconv"
	"strings"

	"stutter/api"
)

// The disk is a log: the block with a number has the record with this number, which is an entry or a take.
//
// A power failure may leave the first bytes of a record before the last ones of an older content of its block. Whatever a hash says of such bytes, there are texts for which it says that they are one record. So a record begins and ends with the same mark, and is written with another one than the character with which its block ends: a block that was written in part begins with the new mark and does not end with it, or is shorter than it says. A life writes a block at most once, so that it knows how its block ends.
//
// A record names the life that wrote it, which is greater than all that can be seen on the disk, so that records that an earlier life left behind a lost one do not follow those that are written later.

// The lengths of the parts of a record, in their order; behind the payload stand a hash, by which other changes of a block are noticed, and the mark again.
const (
	markLength  = 1
	indexLength = 3
	lifeLength  = 1 // one character, which cannot be written in part
	sizeLength  = 3
	headLength  = markLength + indexLength + lifeLength + sizeLength
	hashLength  = 16
	fromLength  = 3
	actLength   = 2
	putLength   = 1 + fromLength + actLength
	maxLength   = headLength + putLength + api.MaxPacked + hashLength + markLength
	maxRecords  = 2 * api.MaxStoreOps // each entry is put and taken
)

// The marks, the greatest life, whose character is the last one that is printed, and what stands for no entry.
const (
	marks   = "AB"
	noEntry = "---"
	maxLife = '~' - '!' + 1
)

// record is what a block says.
type record struct {
	life    int // 0: it cannot be seen
	payload string
	whole   bool // written by one write, and nothing of it is lost
}

// padded is a number with so many digits.
func padded(n, digits int) string {
	s := strconv.Itoa(n)
	return strings.Repeat("0", max(0, digits-len(s))) + s
}

// hashOf is a hash of 64 bits, as 16 digits.
func hashOf(s string) string {
	h := uint64(14695981039346656037)
	for _, b := range []byte(s) {
		h = (h ^ uint64(b)) * 1099511628211
	}
	out := strconv.FormatUint(h, 16)
	return strings.Repeat("0", hashLength-len(out)) + out
}

// blockOf is the block of a record.
func blockOf(mark string, index, life int, payload string) string {
	s := mark + padded(index, indexLength) + string(rune('!'+life-1)) + padded(len(payload), sizeLength) + payload
	return s + hashOf(s) + mark
}

// markFor is the mark with which a record is written over the content of a block.
func markFor(old string) string {
	if strings.HasSuffix(old, marks[:markLength]) {
		return marks[markLength:]
	}
	return marks[:markLength]
}

// payloadOf is what a record of an operation says.
func payloadOf(op api.StoreOp, packed string) string {
	if op.Kind == api.StoreTake {
		return "T"
	}
	from := noEntry
	if op.From != api.None {
		from = padded(op.From, fromLength)
	}
	return "P" + from + padded(op.Action, actLength) + packed
}

// operationOf is the operation whose record says something; false if there is none.
func operationOf(payload string) (api.StoreOp, bool) {
	if payload == "T" {
		return api.StoreOp{Kind: api.StoreTake}, true
	}
	if len(payload) < putLength || payload[0] != 'P' {
		return api.StoreOp{}, false
	}
	op := api.StoreOp{From: api.None}
	isFrom := true
	if payload[1:1+fromLength] != noEntry {
		op.From, isFrom = digits(payload, 1, fromLength)
	}
	action, isAction := digits(payload, 1+fromLength, actLength)
	state, err := Unpack(payload[putLength:])
	op.Action, op.State = action, state
	return op, isFrom && isAction && action < api.MaxActions && err == api.OK
}

// digits reads a number of so many digits, of which the text may have fewer; false if something else stands there.
func digits(s string, from, length int) (int, bool) {
	if from >= len(s) {
		return 0, true
	}
	part := s[from:min(len(s), from+length)]
	n := 0
	for _, c := range []byte(part) {
		if c < '0' || c > '9' {
			return 0, false
		}
		n = n*10 + int(c-'0')
	}
	return n, true
}

// lifeIn is the life that a block names, 0 if it is too short.
func lifeIn(block string) int {
	if at := markLength + indexLength; at < len(block) {
		return int(block[at]) - '!' + 1
	}
	return 0
}

// read reads the block with a number; false if no writes can have left it.
func read(block string, index int) (record, bool) {
	if block == "" {
		return record{}, true
	}
	if index >= maxRecords || !hasHead(block, index) {
		return record{}, false
	}
	r := record{life: lifeIn(block)}
	if isBeginning(block, index) {
		size, _ := digits(block, markLength+indexLength+lifeLength, sizeLength)
		if r.whole = len(block) == headLength+size+hashLength+markLength; r.whole {
			r.payload = block[headLength : headLength+size]
		}
		return r, true
	}
	return r, isMixed(block, index)
}

// hasHead says whether a block begins like a record with a number, and has only the characters of records.
func hasHead(block string, index int) bool {
	number := block[markLength:min(len(block), markLength+indexLength)]
	_, isSize := digits(block, markLength+indexLength+lifeLength, sizeLength)
	strange := slices.ContainsFunc([]byte(block), func(c byte) bool { return c < ' ' || c > '~' })
	return strings.Contains(marks, block[:markLength]) && strings.HasPrefix(padded(index, indexLength), number) && isSize &&
		!strange && (len(block) <= markLength+indexLength || lifeIn(block) > 0)
}

// isBeginning says whether a block with a head is a record with some number, or a beginning of one.
func isBeginning(block string, index int) bool {
	if len(block) < headLength {
		return true
	}
	size, _ := digits(block, markLength+indexLength+lifeLength, sizeLength)
	payload := block[headLength:min(len(block), headLength+size)]
	if len(payload) < size {
		return beginsPayload(payload, size, index)
	}
	op, ok := operationOf(payload)
	return ok && canBe(op, index) && strings.HasPrefix(blockOf(block[:markLength], index, lifeIn(block), payload), block)
}

// canBe says whether an operation can be the record with a number.
func canBe(op api.StoreOp, index int) bool {
	if op.Kind == api.StoreTake {
		return index > 0
	}
	return op.From < index
}

// beginsPayload says whether what stands in a record may be the beginning of a payload of some size, which is longer.
func beginsPayload(payload string, size, index int) bool {
	if size == 1 {
		return canBe(api.StoreOp{Kind: api.StoreTake}, index)
	}
	if size <= putLength || size > putLength+api.MaxPacked {
		return false
	}
	return payload == "" || beginsPut(payload, index)
}

// beginsPut says whether a text may be the beginning of what the record of an entry says.
func beginsPut(payload string, index int) bool {
	from := payload[1:min(len(payload), 1+fromLength)]
	n, isFrom := digits(from, 0, fromLength)
	if isFrom && len(from) == fromLength && n >= index || !isFrom && !strings.HasPrefix(noEntry, from) {
		return false
	}
	action, isAction := digits(payload, 1+fromLength, actLength)
	if payload[0] != 'P' || !isAction || action >= api.MaxActions {
		return false
	}
	if len(payload) <= putLength {
		return true
	}
	_, _, complete := unpackFirst(payload[putLength:])
	return !complete
}

// isMixed says whether a block with a head may have parts of a record and of an older one that its block had before.
func isMixed(block string, index int) bool {
	if len(block) > maxLength || block[len(block)-1] == block[0] {
		return false
	}
	if lifeIn(block) != 1 {
		return true
	}
	// A record of the first life stands over no other one; so it is the older one, and nothing but a mark was written.
	other := strings.Trim(marks, block[:markLength])
	return isBeginning(other+block[markLength:], index)
}

// journal is a log that was read: the store, how many records it has, and the greatest life on the disk.
type journal struct {
	*memory
	records, life int
}

// apply does what a payload says; false if it can say nothing like this.
func (j *journal) apply(payload string) bool {
	op, ok := operationOf(payload)
	if !ok || j.check(op) != api.OK {
		return false
	}
	r := j.do(op)
	if op.Kind == api.StoreTake {
		return r.Entry != api.None
	}
	return r.New && len(j.Entries) <= api.MaxStoreOps
}

// recovered reads the log on a disk.
func recovered(content []string) (*journal, api.Errno) {
	if err := checkContent(content); err != api.OK {
		return nil, err
	}
	j := &journal{memory: memoryOf(api.StoreState{})}
	var records []record
	for i, block := range content {
		r, ok := read(block, i)
		if !ok {
			return nil, api.ErrTorn
		}
		j.life = max(j.life, r.life)
		records = append(records, r)
	}
	before := 0
	for _, r := range records {
		if !r.whole || r.life < before {
			break
		}
		if !j.apply(r.payload) {
			return nil, api.ErrTorn
		}
		before = r.life
		j.records++
	}
	return j, api.OK
}

// RecoverFrom returns the store on a disk.
func RecoverFrom(content []string) (api.StoreState, api.Errno) {
	j, err := recovered(content)
	if err != api.OK {
		return api.StoreState{}, err
	}
	return j.StoreState, api.OK
}

// WritesOf returns the writes of a store that was recovered, and gets operations.
func WritesOf(content []string, l []api.StoreOp) ([]api.DiskWrite, api.Errno) {
	j, err := recovered(content)
	if err != api.OK {
		return nil, err
	}
	old := make([]string, api.MaxDiskBlocks)
	copy(old, content)
	life := j.life + 1
	full := false
	var out []api.DiskWrite
	err = j.doAll(l, func(op api.StoreOp, r api.StoreResult) {
		switch {
		case op.Kind == api.StoreSync:
			out = append(out, api.DiskWrite{Kind: api.DiskSync})
		case r.New || op.Kind == api.StoreTake && r.Entry != api.None:
			if full = full || life > maxLife || len(j.Entries) > api.MaxStoreOps; full {
				return
			}
			packed := ""
			if r.New {
				packed = j.Entries[r.Entry].Packed
			}
			block := blockOf(markFor(old[j.records]), j.records, life, payloadOf(op, packed))
			out = append(out, api.DiskWrite{Kind: api.DiskPut, Block: j.records, Bytes: block})
			j.records++
		}
	})
	if err != api.OK {
		return nil, err
	}
	if full {
		return nil, api.ErrFull
	}
	return slices.Clip(out), api.OK
}
