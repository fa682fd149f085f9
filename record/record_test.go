package record

import (
	"bytes"
	"encoding/binary"
	"fmt"
	"hash/crc32"
	"math/rand"
	"slices"
	"sort"
	"strings"
	"testing"

	"rampart/api"
)

// The chapter's numbers, not api's.
const (
	kPrepare   = 1
	kCommit    = 2
	mostKeys   = 1024
	mostBytes  = 65535 // of a key, of a value
	longest    = 1048576
	leastID    = 65536
	greatestID = 1<<64 - 1

	errArg  = api.Errno(1)
	errBad  = api.Errno(2)
	errLong = api.Errno(3)
	errSum  = api.Errno(90)
	errTorn = api.Errno(91)
)

// The model: which records may be, their bytes, and the chapter's errors in its order.

func modelMay(r api.Record) bool {
	switch {
	case r.ID < leastID:
		return false
	case r.Kind == kCommit:
		return len(r.Pairs)+len(r.Keys) == 0
	case r.Kind != kPrepare:
		return false
	}
	return modelKeys(r.Keys) && modelPairs(r)
}

func modelKeys(l []string) bool {
	seen := map[string]bool{}
	for _, k := range l {
		if seen[k] || len(k) > mostBytes {
			return false
		}
		seen[k] = true
	}
	return len(l) >= 1 && len(l) <= mostKeys && sort.StringsAreSorted(l)
}

func modelPairs(r api.Record) bool {
	for i, p := range r.Pairs {
		if len(p.Value) > mostBytes || !slices.Contains(r.Keys, p.Key) || i > 0 && r.Pairs[i-1].Key >= p.Key {
			return false
		}
	}
	return len(r.Pairs) >= 1
}

func be32(n int) []byte { return binary.BigEndian.AppendUint32(nil, uint32(n)) }

func text(s string) []byte { return append(be32(len(s)), s...) }

// modelPayload is the payload of a record, one that may not be too, as far as its kind has fields.
func modelPayload(r api.Record) []byte {
	b := binary.BigEndian.AppendUint64([]byte{byte(r.Kind)}, uint64(r.ID))
	if r.Kind != kPrepare {
		return b
	}
	b = append(b, be32(len(r.Pairs))...)
	for _, p := range r.Pairs {
		b = append(append(b, text(p.Key)...), text(p.Value)...)
	}
	b = append(b, be32(len(r.Keys))...)
	for _, k := range r.Keys {
		b = append(b, text(k)...)
	}
	return b
}

// sealed is a payload, whatever it is, with its length and its checksum.
func sealed(payload []byte) []byte {
	b := binary.BigEndian.AppendUint32(be32(len(payload)), crc32.ChecksumIEEE(payload))
	return append(b, payload...)
}

func modelBytes(r api.Record) []byte { return sealed(modelPayload(r)) }

// walk reads without any of the chapter's limits: only that the bytes are there.
type walk struct {
	b   []byte
	bad bool
}

func (w *walk) take(n uint64) []byte {
	if w.bad || uint64(len(w.b)) < n {
		w.bad = true
		return make([]byte, min(n, 8))
	}
	b := w.b[:n]
	w.b = w.b[n:]
	return b
}

func (w *walk) u32() uint64 { return uint64(binary.BigEndian.Uint32(w.take(4))) }

func (w *walk) text() string { return string(w.take(w.u32())) }

// modelRead is the record of which b could be the payload. What it answers may be, or not.
func modelRead(b []byte) (api.Record, bool) {
	w := &walk{b: b}
	r := api.Record{Kind: int(w.take(1)[0]), ID: api.ID(binary.BigEndian.Uint64(w.take(8)))}
	if r.Kind == kPrepare {
		for n := w.u32(); n > 0 && !w.bad; n-- {
			key := w.text()
			r.Pairs = append(r.Pairs, api.Pair{Key: key, Value: w.text()})
		}
		for n := w.u32(); n > 0 && !w.bad; n-- {
			r.Keys = append(r.Keys, w.text())
		}
	}
	return r, !w.bad && len(w.b) == 0
}

func modelParse(b []byte) (api.Record, int, api.Errno) {
	if len(b) < 8 {
		return api.Record{}, 0, errTorn
	}
	size := uint64(binary.BigEndian.Uint32(b))
	if size > longest {
		return api.Record{}, 0, errLong
	}
	if uint64(len(b)-8) < size {
		return api.Record{}, 0, errTorn
	}
	payload := b[8 : 8+size]
	if crc32.ChecksumIEEE(payload) != binary.BigEndian.Uint32(b[4:]) {
		return api.Record{}, 0, errSum
	}
	r, whole := modelRead(payload)
	if !whole || !modelMay(r) {
		return api.Record{}, 0, errBad
	}
	return r, int(8 + size), 0
}

func modelScan(b []byte) ([]api.Record, int) {
	var l []api.Record
	end := 0
	for {
		r, n, err := modelParse(b[end:])
		if err != 0 {
			return l, end
		}
		l, end = append(l, r), end+n
	}
}

// Records held against each other, told, copied with room, spoilt.

// same tells whether two records are equal field by field; nil and empty lists are the same.
func same(a, b api.Record) bool {
	return a.Kind == b.Kind && a.ID == b.ID && slices.Equal(a.Pairs, b.Pairs) && slices.Equal(a.Keys, b.Keys)
}

// short tells a thing, but not all of a long one.
func short(x any) string {
	s := fmt.Sprintf("%#v", x)
	if b, ok := x.([]byte); ok {
		s = fmt.Sprintf("[% x]", b)
	}
	if len(s) > 400 {
		return s[:300] + " and on, " + fmt.Sprint(len(s)) + " signs in all"
	}
	return s
}

// spare is how many elements of room stand behind each list that is handed in.
const spare = 3

// with is a copy of a list with room behind it, in which mark stands.
func with[T any](l []T, mark T) []T {
	out := append(make([]T, 0, len(l)+spare), l...)
	for range spare {
		out = append(out, mark)
	}
	return out[:len(l)]
}

// holds tells whether a list is this one still, and its room holds marks.
func holds[T comparable](l, was []T, mark T) bool {
	for _, x := range l[len(l) : len(l)+spare] {
		if x != mark {
			return false
		}
	}
	return slices.Equal(l, was)
}

// fill writes x into all of a list, its room too.
func fill[T any](l []T, x T) {
	l = l[:cap(l)]
	for i := range l {
		l[i] = x
	}
}

const mark = "\xA5mark"

var markPair = api.Pair{Key: mark, Value: mark}

// roomy is a copy of a record whose lists have room.
func roomy(r api.Record) api.Record {
	r.Pairs, r.Keys = with(r.Pairs, markPair), with(r.Keys, mark)
	return r
}

// spoil writes over all lists of records.
func spoil(l ...api.Record) {
	for _, r := range l {
		fill(r.Pairs, api.Pair{Key: "!", Value: "!"})
		fill(r.Keys, "!")
	}
}

// The calls, each with what it is handed spoilt ahead of a look at its answer.

func may(t *testing.T, r api.Record) bool {
	t.Helper()
	in := roomy(r)
	ok := May(in)
	if !holds(in.Pairs, r.Pairs, markPair) || !holds(in.Keys, r.Keys, mark) {
		t.Fatalf("P9.1: May(%s) changed what was handed in", short(r))
	}
	return ok
}

func build(t *testing.T, r api.Record) ([]byte, api.Errno) {
	t.Helper()
	in := roomy(r)
	b, err := Build(in)
	if !holds(in.Pairs, r.Pairs, markPair) || !holds(in.Keys, r.Keys, mark) {
		t.Fatalf("P9.1: Build(%s) changed what was handed in", short(r))
	}
	spoil(in)
	return b, err
}

func parse(t *testing.T, b []byte) (api.Record, int, api.Errno) {
	t.Helper()
	in := with(b, 0xA5)
	r, n, err := Parse(in)
	if !holds(in, b, 0xA5) {
		t.Fatalf("P9.1: Parse(%s) changed what was handed in", short(b))
	}
	fill(in, '!')
	return r, n, err
}

func scan(t *testing.T, b []byte) ([]api.Record, int) {
	t.Helper()
	in := with(b, 0xA5)
	l, n := Scan(in)
	if !holds(in, b, 0xA5) {
		t.Fatalf("P9.1: Scan(%s) changed what was handed in", short(b))
	}
	fill(in, '!')
	return l, n
}

// check holds what is told about a record against the model, and the way back too.
func check(t *testing.T, r api.Record) {
	t.Helper()
	ok := may(t, r)
	b, err := build(t, r)
	if ok != modelMay(r) {
		t.Fatalf("P9.1: May(%s) is %v", short(r), ok)
	}
	if !ok {
		if len(b) != 0 || err != errArg {
			t.Fatalf("P9.1: %s may not be: Build %d bytes, %d", short(r), len(b), err)
		}
		return
	}
	want := modelBytes(r)
	if len(want) > 8+longest {
		if len(b) != 0 || err != errLong {
			t.Fatalf("P9.1: %s is too long: Build %d bytes, %d", short(r), len(b), err)
		}
		return
	}
	if err != 0 || !bytes.Equal(b, want) {
		t.Fatalf("P9.1: Build(%s): %s, %d, want %s", short(r), short(b), err, short(want))
	}
	for _, behind := range []string{"", "\x00", "\xff\xff\xff\xff\xff\xff\xff\xff\xff", string(want[:8])} {
		back, n, err := parse(t, append(slices.Clone(b), behind...))
		if err != 0 || n != len(b) || !same(back, r) {
			t.Fatalf("P9.2: Parse of Build(%s) with %q behind it: %s, %d, %d", short(r), behind, short(back), n, err)
		}
	}
}

// checkBytes holds what Parse and Scan tell against the model, and what Parse takes against Build.
func checkBytes(t *testing.T, b []byte) api.Errno {
	t.Helper()
	r, n, err := parse(t, b)
	want, wantN, wantErr := modelParse(b)
	if err != wantErr || n != wantN || !same(r, want) {
		t.Fatalf("P9.1: Parse(%s): %s, %d, %d, want %s, %d, %d", short(b), short(r), n, err, short(want), wantN, wantErr)
	}
	if err == 0 {
		if again, e := Build(r); e != 0 || !bytes.Equal(again, b[:n]) {
			t.Fatalf("P9.2: Build of Parse(%s): %s, %d", short(b), short(again), e)
		}
	}
	l, end := scan(t, b)
	wantL, wantEnd := modelScan(b)
	if end != wantEnd || !slices.EqualFunc(l, wantL, same) {
		t.Fatalf("P9.1: Scan(%s): %s, %d, want %s, %d", short(b), short(l), end, short(wantL), wantEnd)
	}
	return err
}

// Records to begin with.

func pair(key, value string) api.Pair { return api.Pair{Key: key, Value: value} }

func prepare(id api.ID, keys []string, pairs ...api.Pair) api.Record {
	return api.Record{Kind: kPrepare, ID: id, Pairs: pairs, Keys: keys}
}

func list(keys ...string) []string { return keys }

// numbers is a rising list of count texts of n bytes each, n at least 4.
func numbers(count, n int) []string {
	var l []string
	for i := range count {
		l = append(l, fmt.Sprintf("%04d", i)+strings.Repeat("k", n-4))
	}
	return l
}

func pairsOf(l []string, value string) []api.Pair {
	var p []api.Pair
	for _, k := range l {
		p = append(p, pair(k, value))
	}
	return p
}

// ordinary is records of both kinds that may be.
func ordinary() []api.Record {
	return []api.Record{
		{Kind: kCommit, ID: 65538},
		{Kind: kCommit, ID: leastID},
		{Kind: kCommit, ID: greatestID},
		prepare(leastID, list("a", "b"), pair("a", "1")),
		prepare(greatestID, list(""), pair("", "")),
		prepare(0x0102030405060708, list("", "a", "bb", "c\x00"), pair("", "x"), pair("bb", ""), pair("c\x00", "\xff\x00")),
		prepare(1<<32, list("a", "a\x00", "b"), pair("a", "2"), pair("a\x00", "3"), pair("b", "4")),
		prepare(77777, numbers(40, 5), pairsOf(numbers(40, 5)[7:33], "value")...),
	}
}

func hex(s string) []byte {
	var b []byte
	for _, w := range strings.Fields(s) {
		var n byte
		if _, err := fmt.Sscanf(w, "%02x", &n); err != nil {
			panic(w)
		}
		b = append(b, n)
	}
	return b
}

// TestExamples: the chapter's five examples; checksums worked out apart from layer 1.
func TestExamples(t *testing.T) {
	commit := api.Record{Kind: kCommit, ID: 65538}
	one := hex("00 00 00 09 27 33 37 33 02 00 00 00 00 00 01 00 02")
	ab := prepare(65536, list("a", "b"), pair("a", "1"))
	two := hex("00 00 00 25 86 d4 ec 76 01 00 00 00 00 00 01 00 00 00 00 00 01 00 00 00 01 61 00 00 00 01 31 00 00 00 02 00 00 00 01 61 00 00 00 01 62")
	if len(one) != 17 || len(two) != 45 {
		t.Fatalf("the test's bytes are %d and %d", len(one), len(two))
	}
	for i, r := range []api.Record{commit, ab} {
		want := [][]byte{one, two}[i]
		if b, err := Build(r); err != 0 || !bytes.Equal(b, want) {
			t.Errorf("P9.1: example %d: Build: %s, %d", i+1, short(b), err)
		}
		if back, n, err := Parse(want); err != 0 || n != len(want) || !same(back, r) {
			t.Errorf("P9.2: example %d: Parse: %s, %d, %d", i+1, short(back), n, err)
		}
	}
	for _, r := range []api.Record{
		{Kind: 0, ID: 65538}, {Kind: 3, ID: 65538}, {Kind: kCommit, ID: 65535}, {Kind: kCommit, ID: 65538, Keys: list("a")},
		prepare(65536, list("a")), prepare(65536, list("b", "a"), pair("a", "")), prepare(65536, list("a", "b"), pair("c", "")),
	} {
		if b, err := Build(r); May(r) || len(b) != 0 || err != errArg {
			t.Errorf("P9.1: example 3: %s: May %v, Build %d bytes, %d", short(r), May(r), len(b), err)
		}
	}
	turned := slices.Clone(one)
	turned[16] ^= 0x40
	for _, c := range []struct {
		b   []byte
		n   int
		err api.Errno
	}{
		{one[:7], 0, errTorn}, {make([]byte, 7), 0, errTorn}, {make([]byte, 8), 0, errBad}, {hex("00 10 00 01 00 00 00 00"), 0, errLong},
		{one[:16], 0, errTorn}, {turned, 0, errSum}, {append(slices.Clone(one), 9), 17, 0},
	} {
		r, n, err := Parse(c.b)
		if n != c.n || err != c.err || (err == 0) != same(r, commit) || (err != 0) != same(r, api.Record{}) {
			t.Errorf("P9.1: example 4: Parse(%s): %s, %d, %d, want %d, %d", short(c.b), short(r), n, err, c.n, c.err)
		}
	}
	row := slices.Concat(one, one, one[:16])
	if l, n := Scan(row); n != 34 || !slices.EqualFunc(l, []api.Record{commit, commit}, same) {
		t.Errorf("P9.3: example 5: %s, %d", short(l), n)
	}
}

// TestOrdinary: the model finds them all right, so that check goes the way there and back.
func TestOrdinary(t *testing.T) {
	for _, r := range ordinary() {
		if !modelMay(r) {
			t.Fatalf("the test's record %s may not be", short(r))
		}
		check(t, r)
		if err := checkBytes(t, modelBytes(r)); err != 0 {
			t.Fatalf("P9.2: Parse of the bytes of %s: %d", short(r), err)
		}
	}
}

// edge is a record, and whether the chapter says that it may be.
type edge struct {
	what string
	r    api.Record
	may  bool
}

func edges() []edge {
	ab, one := list("a", "b"), pair("a", "1")
	key, keyMore := strings.Repeat("k", 65535), strings.Repeat("k", 65536)
	many, more := numbers(1024, 4), numbers(1025, 4)
	return []edge{
		{"nothing", api.Record{}, false},
		{"Kind 0", api.Record{Kind: 0, ID: leastID}, false},
		{"Kind 0 with lists", api.Record{Kind: 0, ID: leastID, Keys: ab, Pairs: []api.Pair{one}}, false},
		{"Kind 3", api.Record{Kind: 3, ID: leastID}, false},
		{"Kind 3 with lists", api.Record{Kind: 3, ID: leastID, Keys: ab, Pairs: []api.Pair{one}}, false},
		{"Kind -1", api.Record{Kind: -1, ID: leastID}, false},
		{"Kind 257", api.Record{Kind: 257, ID: leastID, Keys: ab, Pairs: []api.Pair{one}}, false},
		{"Kind 258", api.Record{Kind: 258, ID: leastID}, false},
		{"Kind 2 below 0", api.Record{Kind: 2 - 256, ID: leastID}, false},
		{"commit 0", api.Record{Kind: kCommit, ID: 0}, false},
		{"commit 65535", api.Record{Kind: kCommit, ID: 65535}, false},
		{"commit 65536", api.Record{Kind: kCommit, ID: 65536}, true},
		{"commit greatest", api.Record{Kind: kCommit, ID: greatestID}, true},
		{"commit with pairs", api.Record{Kind: kCommit, ID: leastID, Pairs: []api.Pair{one}}, false},
		{"commit with keys", api.Record{Kind: kCommit, ID: leastID, Keys: ab}, false},
		{"commit with both", api.Record{Kind: kCommit, ID: leastID, Pairs: []api.Pair{one}, Keys: ab}, false},
		{"commit with empty lists", api.Record{Kind: kCommit, ID: leastID, Pairs: []api.Pair{}, Keys: []string{}}, true},
		{"prepare 0", prepare(0, ab, one), false},
		{"prepare 65535", prepare(65535, ab, one), false},
		{"prepare 65536", prepare(65536, ab, one), true},
		{"prepare greatest", prepare(greatestID, ab, one), true},
		{"no pairs", prepare(leastID, ab), false},
		{"no keys", prepare(leastID, nil, one), false},
		{"neither", prepare(leastID, nil), false},
		{"all pairs", prepare(leastID, ab, one, pair("b", "2")), true},
		{"the last key's pair", prepare(leastID, ab, pair("b", "")), true},
		{"keys that fall", prepare(leastID, list("b", "a"), one), false},
		{"keys that fall behind", prepare(leastID, list("a", "c", "b"), one), false},
		{"a key twice", prepare(leastID, list("a", "a"), one), false},
		{"a key twice behind", prepare(leastID, list("a", "b", "b"), one), false},
		{"an empty key twice", prepare(leastID, list("", ""), pair("", "")), false},
		{"pairs that fall", prepare(leastID, ab, pair("b", ""), one), false},
		{"a pair twice", prepare(leastID, ab, one, one), false},
		{"a pair twice with another value", prepare(leastID, ab, one, pair("a", "2")), false},
		{"a strange pair ahead", prepare(leastID, ab, pair("", ""), one), false},
		{"a strange pair between", prepare(leastID, list("a", "c"), one, pair("b", ""), pair("c", "")), false},
		{"a strange pair behind", prepare(leastID, ab, one, pair("c", "")), false},
		{"a strange pair alone", prepare(leastID, ab, pair("aa", "")), false},
		{"keys by bytes", prepare(leastID, list("Z", "a", "\x80"), pair("\x80", "")), true},
		{"keys not by bytes", prepare(leastID, list("a", "Z"), pair("a", "")), false},
		{"1 key", prepare(leastID, list("a"), one), true},
		{"1024 keys, 1 pair", prepare(leastID, many, pair(many[1023], "")), true},
		{"1024 keys, all pairs", prepare(leastID, many, pairsOf(many, "v")...), true},
		{"1025 keys, 1 pair", prepare(leastID, more, pair(more[0], "")), false},
		{"1025 keys, all pairs", prepare(leastID, more, pairsOf(more, "v")...), false},
		{"1024 keys, 1025 pairs", prepare(leastID, many, pairsOf(more, "v")...), false},
		{"a key of 65535 bytes", prepare(leastID, list("a", key), one), true},
		{"a pair's key of 65535 bytes", prepare(leastID, list(key), pair(key, "v")), true},
		{"a key of 65536 bytes", prepare(leastID, list("a", keyMore), one), false},
		{"a first key of 65536 bytes", prepare(leastID, list(keyMore, "l"), pair("l", "")), false},
		{"a pair's key of 65536 bytes", prepare(leastID, list(keyMore), pair(keyMore, "v")), false},
		{"a value of 65535 bytes", prepare(leastID, ab, pair("a", key)), true},
		{"a value of 65536 bytes", prepare(leastID, ab, pair("a", keyMore)), false},
		{"a last value of 65536 bytes", prepare(leastID, ab, one, pair("b", keyMore)), false},
	}
}

// TestEdges: what the chapter names, written out, and its bytes read whether it may be or not.
func TestEdges(t *testing.T) {
	for _, c := range edges() {
		if got := may(t, c.r); got != c.may || modelMay(c.r) != c.may {
			t.Errorf("P9.1: %s: May is %v, the model says %v", c.what, got, modelMay(c.r))
		}
		check(t, c.r)
		// A kind of two bytes, or a commit's lists, don't stand in bytes: those are another record's.
		if c.r.Kind < 0 || c.r.Kind > 255 || c.r.Kind != kPrepare && len(c.r.Pairs)+len(c.r.Keys) > 0 {
			continue
		}
		want := errBad
		if c.may {
			want = 0
		}
		if err := checkBytes(t, modelBytes(c.r)); err != want {
			t.Errorf("P9.1: %s: Parse of its bytes: %d, want %d", c.what, err, want)
		}
	}
}

// ofSize is a prepare whose payload has size bytes, somewhat above 2^19 of them or more.
func ofSize(t *testing.T, size int) api.Record {
	t.Helper()
	r := prepare(leastID, numbers(24, 4))
	left := size - 17 - 24*8
	for _, k := range r.Keys {
		n := max(0, min(mostBytes, left-12))
		if left < 12 {
			break
		}
		r.Pairs = append(r.Pairs, pair(k, strings.Repeat("v", n)))
		left -= 12 + n
	}
	if got := len(modelPayload(r)); got != size || !modelMay(r) {
		t.Fatalf("the test's payload has %d bytes, not %d", got, size)
	}
	return r
}

// TestLongest: payloads about MaxFrame; those above it may be, and aren't built.
func TestLongest(t *testing.T) {
	for _, size := range []int{longest - 1, longest, longest + 1, longest + 2, longest + 70000} {
		r := ofSize(t, size)
		check(t, r)
		b, err := Build(r)
		if size <= longest && (err != 0 || len(b) != 8+size) || size > longest && (err != errLong || len(b) != 0) {
			t.Errorf("P9.1: a payload of %d bytes: Build %d bytes, %d", size, len(b), err)
		}
		if !May(r) {
			t.Errorf("P9.1: a payload of %d bytes: May is false", size)
		}
		whole := modelBytes(r)
		want := api.Errno(0)
		if size > longest {
			want = errLong
		}
		if err := checkBytes(t, whole); err != want {
			t.Errorf("P9.1: Parse of a payload of %d bytes: %d, want %d", size, err, want)
		}
		if size <= longest {
			want = errTorn
		}
		if err := checkBytes(t, whole[:len(whole)-1]); err != want {
			t.Errorf("P9.3: Parse of a payload of %d bytes, cut off: %d, want %d", size, err, want)
		}
	}
	// Long by its keys alone, and by far too much of all.
	keys := numbers(32, mostBytes)
	check(t, prepare(leastID, keys, pair(keys[31], "")))
	check(t, prepare(leastID, keys[:15], pair(keys[14], "")))
	many := numbers(mostKeys, 4)
	check(t, prepare(leastID, many, pairsOf(many, strings.Repeat("v", mostBytes))...))
	// A wrong one that is too long is wrong.
	check(t, prepare(leastID, keys, pair("strange", "")))
}

// TestHead: lengths that stand there, and bytes too few for the head.
func TestHead(t *testing.T) {
	for n := range 8 {
		for _, x := range []byte{0, 1, 0xff} {
			if err := checkBytes(t, bytes.Repeat([]byte{x}, n)); err != errTorn {
				t.Errorf("P9.1: Parse of %d bytes %02x: %d", n, x, err)
			}
		}
	}
	for _, c := range []struct {
		size int
		err  api.Errno
	}{
		{0, errBad}, {1, errTorn}, {9, errTorn}, {longest - 1, errTorn}, {longest, errTorn},
		{longest + 1, errLong}, {1 << 24, errLong}, {1<<31 - 1, errLong}, {1 << 31, errLong}, {1<<32 - 1, errLong},
	} {
		head := append(be32(c.size), 0, 0, 0, 0)
		if err := checkBytes(t, head); err != c.err {
			t.Errorf("P9.1: Parse of the length %d alone: %d, want %d", c.size, err, c.err)
		}
		// Nine bytes more: enough for a commit, whose sum this isn't.
		more := append(head, modelPayload(ordinary()[0])...)
		want := c.err
		if c.size == 1 || c.size == 9 {
			want = errSum
		}
		if err := checkBytes(t, more); err != want {
			t.Errorf("P9.1: Parse of the length %d and nine bytes: %d, want %d", c.size, err, want)
		}
	}
	// A length of MaxFrame whose bytes are all there, right sum and wrong sum, no record.
	full := sealed(make([]byte, longest))
	if err := checkBytes(t, full); err != errBad {
		t.Errorf("P9.1: Parse of 1<<20 noughts: %d", err)
	}
	full[4] ^= 1
	if err := checkBytes(t, full); err != errSum {
		t.Errorf("P9.1: Parse of 1<<20 noughts with another sum: %d", err)
	}
	if err := checkBytes(t, full[:len(full)-1]); err != errTorn {
		t.Errorf("P9.1: Parse of 1<<20 - 1 of 1<<20 noughts: %d", err)
	}
	over := sealed(make([]byte, longest+1))
	if err := checkBytes(t, over); err != errLong {
		t.Errorf("P9.1: Parse of 1<<20 + 1 noughts: %d", err)
	}
}

// TestBadPayloads: the sum is right, and no record has this payload.
func TestBadPayloads(t *testing.T) {
	id := "00 00 00 00 00 01 00 02 "
	for what, s := range map[string]string{
		"kind 0":                    "00 " + id,
		"kind 3":                    "03 " + id,
		"kind 255":                  "ff " + id,
		"ID 0":                      "02 00 00 00 00 00 00 00 00",
		"ID 65535":                  "02 00 00 00 00 00 00 ff ff",
		"a prepare's ID 65535":      "01 00 00 00 00 00 00 ff ff 00 00 00 01 00 00 00 00 00 00 00 00 00 00 00 01 00 00 00 00",
		"one byte":                  "02",
		"eight bytes":               "02 00 00 00 00 00 01 00",
		"ten bytes":                 "02 " + id + "00",
		"a commit with empty lists": "02 " + id + "00 00 00 00 00 00 00 00",
		"a prepare without lists":   "01 " + id,
		"no pairs":                  "01 " + id + "00 00 00 00 00 00 00 01 00 00 00 00",
		"no keys":                   "01 " + id + "00 00 00 01 00 00 00 00 00 00 00 00 00 00 00 00",
		"neither":                   "01 " + id + "00 00 00 00 00 00 00 00",
		"many pairs":                "01 " + id + "ff ff ff ff 00 00 00 00 00 00 00 00 00 00 00 01 00 00 00 00",
		"two pairs where one is":    "01 " + id + "00 00 00 02 00 00 00 00 00 00 00 00 00 00 00 01 00 00 00 00",
		"many keys":                 "01 " + id + "00 00 00 01 00 00 00 00 00 00 00 00 ff ff ff ff 00 00 00 00",
		"two keys where one is":     "01 " + id + "00 00 00 01 00 00 00 00 00 00 00 00 00 00 00 02 00 00 00 00",
		"a long key of a pair":      "01 " + id + "00 00 00 01 ff ff ff ff",
		"a long value":              "01 " + id + "00 00 00 01 00 00 00 00 ff ff ff ff",
		"a long key":                "01 " + id + "00 00 00 01 00 00 00 00 00 00 00 00 00 00 00 01 ff ff ff ff",
		"a byte too few":            "01 " + id + "00 00 00 01 00 00 00 01 61 00 00 00 00 00 00 00 01 00 00 00 01",
		"a byte too many":           "01 " + id + "00 00 00 01 00 00 00 00 00 00 00 00 00 00 00 01 00 00 00 00 00",
		"keys that fall":            "01 " + id + "00 00 00 01 00 00 00 01 61 00 00 00 00 00 00 00 02 00 00 00 01 62 00 00 00 01 61",
		"a key twice":               "01 " + id + "00 00 00 01 00 00 00 01 61 00 00 00 00 00 00 00 02 00 00 00 01 61 00 00 00 01 61",
		"a strange pair":            "01 " + id + "00 00 00 01 00 00 00 01 62 00 00 00 00 00 00 00 01 00 00 00 01 61",
		"pairs that fall":           "01 " + id + "00 00 00 02 00 00 00 01 62 00 00 00 00 00 00 00 01 61 00 00 00 00 00 00 00 02 00 00 00 01 61 00 00 00 01 62",
		"a pair twice":              "01 " + id + "00 00 00 02 00 00 00 01 61 00 00 00 00 00 00 00 01 61 00 00 00 00 00 00 00 02 00 00 00 01 61 00 00 00 01 62",
	} {
		if err := checkBytes(t, sealed(hex(s))); err != errBad {
			t.Errorf("P9.1: %s: Parse: %d, want ErrBad", what, err)
		}
	}
}

// TestShapes: each beginning of a payload, one more byte, and each other byte in each place, with the right sum.
func TestShapes(t *testing.T) {
	for _, r := range ordinary()[:7] {
		p := modelPayload(r)
		for n := range len(p) {
			if err := checkBytes(t, sealed(p[:n])); err != errBad && r.Kind != kPrepare {
				t.Fatalf("P9.1: Parse of %d bytes of the payload of %s: %d", n, short(r), err)
			}
		}
		for x := range 256 {
			if err := checkBytes(t, sealed(append(slices.Clone(p), byte(x)))); err != errBad {
				t.Fatalf("P9.1: Parse of the payload of %s and %02x: %d", short(r), x, err)
			}
		}
		for at := range p {
			for x := range 256 {
				q := slices.Clone(p)
				q[at] = byte(x)
				checkBytes(t, sealed(q))
			}
		}
	}
}

// TestAllSmallLists: all short lists of few keys and pairs.
func TestAllSmallLists(t *testing.T) {
	texts := list("", "a", "b", "ab")
	var keyLists [][]string
	var pairLists [][]api.Pair
	for _, l := range rows(4, 3) {
		var keys []string
		var pairs []api.Pair
		for i, x := range l {
			keys = append(keys, texts[x])
			pairs = append(pairs, pair(texts[x], strings.Repeat("v", i)))
		}
		keyLists, pairLists = append(keyLists, keys), append(pairLists, pairs)
	}
	for _, keys := range keyLists {
		for _, pairs := range pairLists {
			for kind := range 4 {
				r := api.Record{Kind: kind, ID: leastID, Pairs: pairs, Keys: keys}
				check(t, r)
				if kind == kPrepare {
					checkBytes(t, modelBytes(r))
				}
			}
		}
	}
}

// rows is all lists of at most most numbers below n.
func rows(n, most int) [][]int {
	all := [][]int{nil}
	for from := 0; most > 0; most-- {
		to := len(all)
		for _, l := range all[from:to] {
			for x := range n {
				all = append(all, append(slices.Clone(l), x))
			}
		}
		from = to
	}
	return all
}

// chance makes records, mostly ones that may be.
type chance struct{ *rand.Rand }

func (c chance) text() string {
	b := make([]byte, c.Intn(4))
	for i := range b {
		b[i] = "ab\x00\xff"[c.Intn(4)]
	}
	return string(b)
}

func (c chance) id() api.ID {
	return []api.ID{leastID, greatestID, 65537, api.ID(c.Uint64()), api.ID(c.Intn(1 << 17))}[c.Intn(5)]
}

func (c chance) record() api.Record {
	r := api.Record{Kind: kCommit, ID: c.id()}
	if c.Intn(3) == 0 {
		return r
	}
	r.Kind = kPrepare
	for range 1 + c.Intn(6) {
		r.Keys = append(r.Keys, c.text())
	}
	slices.Sort(r.Keys)
	r.Keys = slices.Compact(r.Keys)
	for _, k := range r.Keys {
		if c.Intn(2) == 0 {
			r.Pairs = append(r.Pairs, pair(k, c.text()))
		}
	}
	return c.bent(r)
}

// bent is a record with a little of it changed, now and then.
func (c chance) bent(r api.Record) api.Record {
	switch c.Intn(12) {
	case 0:
		r.Kind = c.Intn(5) - 1
	case 1:
		r.Keys[c.Intn(len(r.Keys))] = c.text()
	case 2:
		r.Pairs = append(r.Pairs, pair(c.text(), c.text()))
	case 3:
		slices.Reverse(r.Pairs)
	case 4:
		slices.Reverse(r.Keys)
	}
	return r
}

// TestChance: records and their bytes by chance, bytes bent with the right sum, and rows of all that.
func TestChance(t *testing.T) {
	c := chance{rand.New(rand.NewSource(91))}
	var row []byte
	for i := range 20000 {
		r := c.record()
		check(t, r)
		p := modelPayload(r)
		for range c.Intn(3) {
			p[c.Intn(len(p))] ^= byte(1 << c.Intn(8))
		}
		b := sealed(p[:len(p)-c.Intn(2)*c.Intn(2)])
		row = append(row, b...)
		if c.Intn(4) == 0 {
			b[c.Intn(len(b))] = byte(c.Intn(3))
		}
		checkBytes(t, b)
		checkBytes(t, b[:c.Intn(len(b)+1)])
		if i%10 == 9 {
			checkBytes(t, row)
			row = nil
		}
	}
	for range 20000 {
		b := make([]byte, c.Intn(40))
		for i := range b {
			b[i] = "\x00\x00\x00\x01\x02\x09a\xff"[c.Intn(8)]
		}
		checkBytes(t, b)
		checkBytes(t, sealed(b))
	}
}

// TestCutOff: each beginning of a row, with the errors of what is cut off.
func TestCutOff(t *testing.T) {
	l := ordinary()
	var row []byte
	ends := []int{0}
	for _, r := range l {
		b, err := Build(r)
		if err != 0 {
			t.Fatalf("P9.1: Build(%s): %d", short(r), err)
		}
		row = append(row, b...)
		ends = append(ends, len(row))
	}
	for n := range len(row) + 1 {
		whole, _ := slices.BinarySearch(ends, n+1)
		whole--
		got, at := scan(t, row[:n])
		if at != ends[whole] || !slices.EqualFunc(got, l[:whole], same) {
			t.Fatalf("P9.3: Scan of %d bytes: %d records, %d, want %d, %d", n, len(got), at, whole, ends[whole])
		}
		if r, size, err := parse(t, row[ends[whole]:n]); err != errTorn || size != 0 || !same(r, api.Record{}) {
			t.Fatalf("P9.3: Parse of what is cut off at %d: %s, %d, %d", n, short(r), size, err)
		}
	}
}

// TestScan: no bytes, a row, and bytes behind a row that are no record, right ones behind those too.
func TestScan(t *testing.T) {
	if l, n := Scan(nil); len(l) != 0 || n != 0 {
		t.Errorf("P9.1: Scan(nil): %d records, %d", len(l), n)
	}
	if l, n := Scan([]byte{}); len(l) != 0 || n != 0 {
		t.Errorf("P9.1: Scan of no bytes: %d records, %d", len(l), n)
	}
	l := ordinary()
	var row []byte
	for _, r := range l {
		row = append(row, modelBytes(r)...)
	}
	right := modelBytes(l[0])
	wrongSum := slices.Clone(right)
	wrongSum[7] ^= 1
	for what, behind := range map[string][]byte{
		"nothing":            nil,
		"a nought":           {0},
		"eight noughts":      make([]byte, 8),
		"a long length":      hex("00 10 00 01 00 00 00 00"),
		"a wrong sum":        wrongSum,
		"no payload of ours": sealed(hex("03 00 00 00 00 00 01 00 02")),
		"a torn one":         right[:16],
	} {
		// A torn one takes the bytes behind it for its own, so its sum is wrong; the others stay what they are.
		for _, last := range [][]byte{nil, right} {
			b := slices.Concat(row, behind, last)
			want, end := len(l), len(row)
			if behind == nil && last != nil {
				want, end = want+1, end+len(right)
			}
			got, n := scan(t, b)
			if len(got) != want || n != end || !slices.EqualFunc(got[:len(l)], l, same) {
				t.Errorf("P9.1: Scan of a row with %s behind it: %d records, %d, want %d, %d", what, len(got), n, want, end)
			}
			checkBytes(t, b)
		}
	}
}

// TestScanLong: a log of many records, and some long ones, is gone through once.
func TestScanLong(t *testing.T) {
	var row []byte
	for i := range 200000 {
		row = append(row, modelBytes(api.Record{Kind: kCommit, ID: leastID + api.ID(i)})...)
	}
	l, n := scan(t, row)
	if len(l) != 200000 || n != len(row) || l[199999].ID != leastID+199999 {
		t.Fatalf("P9.3: Scan of 200000 records: %d, %d", len(l), n)
	}
	big := ofSize(t, longest)
	one := modelBytes(big)
	long := slices.Concat(one, one, one[:len(one)-1])
	l, n = scan(t, long)
	if n != 2*len(one) || !slices.EqualFunc(l, []api.Record{big, big}, same) {
		t.Fatalf("P9.3: Scan of two long records and a torn one: %d, %d", len(l), n)
	}
}

// TestBurst: changes of the sum, and of payload bits in a span of 32, one alone, answer ErrSum.
func TestBurst(t *testing.T) {
	c := chance{rand.New(rand.NewSource(94))}
	for _, r := range ordinary() {
		b, err := Build(r)
		if err != 0 {
			t.Fatalf("P9.1: Build(%s): %d", short(r), err)
		}
		for bit := range 32 {
			broken(t, b, changed(b[:8], 32+bit, 1), b[8:])
		}
		for range 300 {
			broken(t, b, changed(b[:8], 32, c.Uint32()|1<<c.Intn(32)), b[8:])
		}
		bits := 8 * (len(b) - 8)
		for at := range bits {
			// What goes beyond the end would be no change of the payload.
			room := uint32(1<<min(32, bits-at) - 1)
			for _, mask := range []uint32{1, 3, 0x80000001, 0xffffffff, 0xffff, c.Uint32() | 1, c.Uint32() | 1, 0xEDB88320} {
				if mask&room != 0 {
					broken(t, b, b[:8], changed(b[8:], at, mask&room))
				}
			}
		}
	}
	big := modelBytes(ofSize(t, longest))
	for range 20 {
		at := c.Intn(8*longest - 32)
		broken(t, big, big[:8], changed(big[8:], at, c.Uint32()|1))
	}
}

// changed is b with the bits from number at on turned that mask has, each byte's bits from its lowest on.
func changed(b []byte, at int, mask uint32) []byte {
	out := slices.Clone(b)
	for i := range 32 {
		if mask>>i&1 == 1 {
			out[(at+i)/8] ^= 1 << ((at + i) % 8)
		}
	}
	return out
}

func broken(t *testing.T, was, head, payload []byte) {
	t.Helper()
	b := slices.Concat(head, payload)
	if bytes.Equal(b, was) {
		t.Fatal("the test changed nothing")
	}
	if r, n, err := Parse(b); err != errSum || n != 0 || !same(r, api.Record{}) {
		t.Fatalf("P9.4: Parse(%s), of %s: %s, %d, %d", short(b), short(was), short(r), n, err)
	}
	if l, n := Scan(b); len(l) != 0 || n != 0 {
		t.Fatalf("P9.4: Scan(%s), of %s: %d records, %d", short(b), short(was), len(l), n)
	}
}

// TestNewMemory: what is told is written over, and told again as it was; lists of an answer are apart.
func TestNewMemory(t *testing.T) {
	l := append(ordinary(), ofSize(t, longest))
	var row []byte
	for _, r := range l {
		want := modelBytes(r)
		row = append(row, want...)
		one, _ := Build(r)
		two, _ := Build(r)
		fill(one, '!')
		if !bytes.Equal(two, want) {
			t.Fatalf("P9.1: two calls of Build(%s) share memory", short(r))
		}
		fill(two, '?')
		if three, _ := Build(r); !bytes.Equal(three, want) {
			t.Fatalf("P9.1: Build(%s) tells what was written over", short(r))
		}
		x, _, _ := Parse(want)
		y, _, _ := Parse(want)
		spoil(x)
		if !same(y, r) {
			t.Fatalf("P9.1: two calls of Parse(%s) share memory", short(want))
		}
		spoil(y)
		if z, _, err := Parse(want); err != 0 || !same(z, r) || !bytes.Equal(want, modelBytes(r)) {
			t.Fatalf("P9.1: Parse(%s) tells what was written over", short(want))
		}
	}
	x, _ := Scan(row)
	y, _ := Scan(row)
	if !listsApart(x) {
		t.Fatal("P9.1: two lists of Scan share memory")
	}
	fill(x, api.Record{})
	if !slices.EqualFunc(y, l, same) {
		t.Fatal("P9.1: two calls of Scan share memory")
	}
}

// listsApart fills every list of records with things of its own, and tells whether all stay.
func listsApart(l []api.Record) bool {
	for i, r := range l {
		fill(r.Keys, fmt.Sprint(i))
		fill(r.Pairs, pair(fmt.Sprint(i), ""))
	}
	for i, r := range l {
		for _, k := range r.Keys[:cap(r.Keys)] {
			if k != fmt.Sprint(i) {
				return false
			}
		}
		for _, p := range r.Pairs[:cap(r.Pairs)] {
			if p != pair(fmt.Sprint(i), "") {
				return false
			}
		}
	}
	return true
}

// TestNothingIsKept: refused calls and others between don't show in what is told later.
func TestNothingIsKept(t *testing.T) {
	c := chance{rand.New(rand.NewSource(99))}
	l := ordinary()
	for range 3000 {
		r := l[c.Intn(len(l))]
		bad := c.record()
		bad.ID = 65535
		Build(bad)
		Parse(modelBytes(r)[:c.Intn(17)])
		Scan(modelBytes(bad))
		b, err := Build(r)
		if err != 0 || !bytes.Equal(b, modelBytes(r)) {
			t.Fatalf("P9.1: Build(%s) behind other calls: %s, %d", short(r), short(b), err)
		}
		if back, n, err := Parse(b); err != 0 || n != len(b) || !same(back, r) {
			t.Fatalf("P9.2: Parse(%s) behind other calls: %s, %d, %d", short(b), short(back), n, err)
		}
	}
}
