package snap

import (
	"bytes"
	"encoding/binary"
	"fmt"
	"hash/crc32"
	"math"
	"math/rand"
	"runtime"
	"slices"
	"sort"
	"strings"
	"testing"

	"rampart/api"
	"rampart/store"
)

// The chapter's numbers, not api's.
const (
	one      = api.ID(65536)  // client 0's first write
	two      = api.ID(131072) // its second
	three    = api.ID(196608) // and its third
	lastID   = api.ID(1<<64 - 1)
	lastGen  = int64(math.MaxInt64)
	maxSet   = 1024
	maxBytes = 65535 // of a key, of a value
	maxTick  = int64(1) << 40

	errArg = api.Errno(1)
	errBad = api.Errno(2)
	errSum = api.Errno(90)
)

// The model: what bytes say, the bytes of that, whether a store could tell it, and the chapter's errors in its order.

// image is what bytes say, lawful or not.
type image struct {
	gen      uint64
	lasts    []api.Last
	versions []api.Version
}

func be32(b []byte, n int) []byte { return binary.BigEndian.AppendUint32(b, uint32(n)) }

func be64(b []byte, n uint64) []byte { return binary.BigEndian.AppendUint64(b, n) }

func text(b []byte, s string) []byte { return append(be32(b, len(s)), s...) }

// body is all bytes of an image ahead of the checksum.
func (m image) body() []byte {
	b := be64([]byte{0x72, 0x61, 0x6d, 0x70, 1}, m.gen)
	b = be32(b, len(m.lasts))
	for _, l := range m.lasts {
		b = be64(text(b, l.Key), uint64(l.ID))
	}
	b = be32(b, len(m.versions))
	for _, v := range m.versions {
		b = text(be64(text(b, v.Key), uint64(v.ID)), v.Value)
		b = be32(b, len(v.Keys))
		for _, key := range v.Keys {
			b = text(b, key)
		}
	}
	return b
}

// sealed is bytes, whatever they are, with their checksum.
func sealed(body []byte) []byte {
	return binary.BigEndian.AppendUint32(slices.Clone(body), crc32.ChecksumIEEE(body))
}

func (m image) bytes() []byte { return sealed(m.body()) }

// lawful tells whether there is a store with these lasts and versions, and a generation that is one.
func (m image) lawful() bool {
	there := map[api.Want]bool{}
	for i, v := range m.versions {
		if i > 0 && !rise(m.versions[i-1], v) || !lawfulVersion(v) {
			return false
		}
		there[api.Want{Key: v.Key, ID: v.ID}] = true
	}
	for i, l := range m.lasts {
		if i > 0 && m.lasts[i-1].Key >= l.Key || !there[api.Want(l)] {
			return false
		}
	}
	return m.gen >= 1 && m.gen <= math.MaxInt64
}

func rise(a, b api.Version) bool { return a.Key < b.Key || a.Key == b.Key && a.ID < b.ID }

func lawfulVersion(v api.Version) bool {
	seen := map[string]bool{}
	for _, key := range v.Keys {
		if seen[key] || len(key) > maxBytes {
			return false
		}
		seen[key] = true
	}
	return v.ID >= one && len(v.Value) <= maxBytes && seen[v.Key] && len(v.Keys) <= maxSet && sort.StringsAreSorted(v.Keys)
}

// kept is the versions with the stamps that the chapter asks for.
func (m image) kept(now int64) []api.Kept {
	var out []api.Kept
	for _, v := range m.versions {
		k := api.Kept{Version: v, Stamp: -1}
		for _, l := range m.lasts {
			if l.Key == v.Key && v.ID < l.ID {
				k.Stamp = now
			}
		}
		out = append(out, k)
	}
	return out
}

// walk reads without any of the chapter's limits: only that the bytes are there.
type walk struct {
	b   []byte
	bad bool
}

func (w *walk) take(n uint64) []byte {
	if w.bad || uint64(len(w.b)) < n {
		w.bad = true
		return make([]byte, min(n, 8))
	}
	b := w.b[:n]
	w.b = w.b[n:]
	return b
}

func (w *walk) u32() uint64 { return uint64(binary.BigEndian.Uint32(w.take(4))) }

func (w *walk) u64() uint64 { return binary.BigEndian.Uint64(w.take(8)) }

func (w *walk) text() string { return string(w.take(w.u32())) }

// imageIn is what a body says; false: it has not the form.
func imageIn(body []byte) (image, bool) {
	w := &walk{b: body}
	if string(w.take(5)) != "ramp\x01" {
		return image{}, false
	}
	m := image{gen: w.u64()}
	for n := w.u32(); n > 0 && !w.bad; n-- {
		key := w.text()
		m.lasts = append(m.lasts, api.Last{Key: key, ID: api.ID(w.u64())})
	}
	for n := w.u32(); n > 0 && !w.bad; n-- {
		v := api.Version{Key: w.text()}
		v.ID = api.ID(w.u64())
		v.Value = w.text()
		for k := w.u32(); k > 0 && !w.bad; k-- {
			v.Keys = append(v.Keys, w.text())
		}
		m.versions = append(m.versions, v)
	}
	return m, !w.bad && len(w.b) == 0
}

func modelRead(b []byte, now int64) (image, api.Errno) {
	if now < 0 || now > maxTick {
		return image{}, errArg
	}
	end := len(b) - 4
	if end < 0 || crc32.ChecksumIEEE(b[:end]) != binary.BigEndian.Uint32(b[end:]) {
		return image{}, errSum
	}
	if m, has := imageIn(b[:end]); has && m.lawful() {
		return m, 0
	}
	return image{}, errBad
}

// Stores, and what they tell.

type told struct {
	kept  []api.Kept
	lasts []api.Last
}

func toldBy(s *store.Store) told {
	if s == nil {
		return told{}
	}
	return told{s.Kept(), s.Lasts()}
}

func sameVersion(a, b api.Version) bool {
	return a.Key == b.Key && a.ID == b.ID && a.Value == b.Value && slices.Equal(a.Keys, b.Keys)
}

func sameKept(a, b api.Kept) bool { return a.Stamp == b.Stamp && sameVersion(a.Version, b.Version) }

func same(a, b told) bool {
	return slices.Equal(a.lasts, b.lasts) && slices.EqualFunc(a.kept, b.kept, sameKept)
}

// sameButStamps tells whether a stamp that is -1 is one in both, and all else is the same.
func sameButStamps(a, b told) bool {
	return slices.Equal(a.lasts, b.lasts) && slices.EqualFunc(a.kept, b.kept, func(x, y api.Kept) bool {
		return (x.Stamp == -1) == (y.Stamp == -1) && sameVersion(x.Version, y.Version)
	})
}

// imageOf is what the bytes of a store must say.
func imageOf(gen int64, s *store.Store) image {
	m := image{gen: uint64(gen), lasts: s.Lasts()}
	for _, k := range s.Kept() {
		m.versions = append(m.versions, k.Version)
	}
	return m
}

// holdsImage tells whether a store has just an image's lasts and versions, by all that can be asked of it.
func holdsImage(s *store.Store, m image, now int64) bool {
	if !same(toldBy(s), told{m.kept(now), m.lasts}) {
		return false
	}
	for _, v := range m.versions {
		if got, err := s.ByID(v.Key, v.ID); err != 0 || !sameVersion(got, v) {
			return false
		}
	}
	for _, l := range m.lasts {
		if s.Last(l.Key) != l.ID || s.Latest(l.Key).ID != l.ID {
			return false
		}
	}
	return true
}

// short tells a thing, but not all of a long one.
func short(x any) string {
	s := fmt.Sprintf("%#v", x)
	if b, ok := x.([]byte); ok {
		s = fmt.Sprintf("[% x]", b[:min(len(b), 200)])
	}
	if len(s) > 700 {
		return s[:600] + " and on, " + fmt.Sprint(len(s)) + " signs in all"
	}
	return s
}

func list(keys ...string) []string { return keys }

func long(n int) string { return strings.Repeat("k", n) }

// numbers is n keys, rising.
func numbers(n int) []string {
	var out []string
	for i := range n {
		out = append(out, fmt.Sprintf("%04d", i))
	}
	return out
}

// put brings a write of all these keys; the value tells of which key and write it is.
func put(t *testing.T, s *store.Store, id api.ID, now int64, keys ...string) {
	t.Helper()
	var pairs []api.Pair
	for _, key := range keys {
		pairs = append(pairs, api.Pair{Key: key, Value: fmt.Sprint(id, key)})
	}
	putPairs(t, s, id, now, keys, pairs...)
}

func putPairs(t *testing.T, s *store.Store, id api.ID, now int64, keys []string, pairs ...api.Pair) {
	t.Helper()
	if _, err := s.Put(id, pairs, keys, now); err != 0 {
		t.Fatalf("the test's Put of %d: %d", id, err)
	}
}

func commit(t *testing.T, s *store.Store, id api.ID, now int64) {
	t.Helper()
	if _, err := s.Commit(id, now); err != 0 {
		t.Fatalf("the test's Commit of %d: %d", id, err)
	}
}

func pair(key, value string) api.Pair { return api.Pair{Key: key, Value: value} }

// ab is the store of the second example: the write one of a and b; abc with the write two of a too.
func ab(t *testing.T) *store.Store {
	t.Helper()
	s := store.New()
	putPairs(t, s, one, 3, list("a", "b"), pair("a", "1"), pair("b", "2"))
	commit(t, s, one, 3)
	return s
}

func abc(t *testing.T) *store.Store {
	t.Helper()
	s := ab(t)
	putPairs(t, s, two, 5, list("a"), pair("a", "3"))
	commit(t, s, two, 5)
	return s
}

// mixed has committed, old and prepared versions, keys and values of all bytes, and Keys of which it has some alone.
func mixed(t *testing.T) *store.Store {
	t.Helper()
	s := store.New()
	putPairs(t, s, one, 0, list("", "a", "far", "\xff"), pair("", ""), pair("a", "x\x00y"), pair("\xff", long(40)))
	putPairs(t, s, one+5, 1, list("a", "a\x00", "b"), pair("a", "later"), pair("a\x00", "\xff\xfe"))
	putPairs(t, s, 1<<40, 2, list("", "c"), pair("", "of client 0"), pair("c", ""))
	putPairs(t, s, lastID, 3, list("\xff", "\xff\x00"), pair("\xff", "above all"))
	commit(t, s, one, 4)
	commit(t, s, one+5, 6)
	commit(t, s, 1<<40, 9)
	putPairs(t, s, one+1, 11, list("a", "z"), pair("a", "late"))
	putPairs(t, s, three, 12, list("b"), pair("b", "prepared alone"))
	return s
}

func prepared(t *testing.T) *store.Store {
	t.Helper()
	s := store.New()
	put(t, s, one, 1, "a", "b")
	put(t, s, two, 1, "a")
	put(t, s, lastID, 2, "", "b")
	return s
}

func ordinary(t *testing.T) []*store.Store {
	t.Helper()
	return []*store.Store{store.New(), ab(t), abc(t), mixed(t), prepared(t)}
}

// Memory: lists with room behind them, in which marks stand, and lists written over.

const spare = 3

func with(b []byte) []byte {
	out := append(make([]byte, 0, len(b)+spare), b...)
	for range spare {
		out = append(out, 0xA5)
	}
	return out[:len(b)]
}

func unchanged(b, was []byte) bool {
	return bytes.Equal(b, was) && bytes.Equal(b[len(b):len(b)+spare], []byte{0xA5, 0xA5, 0xA5})
}

func spoil(b []byte) {
	b = b[:cap(b)]
	for i := range b {
		b[i] = '!'
	}
}

// The calls, with all that must hold of every one of them looked at.

// build is Build: it must change no store, tell the same again, and its answer is spoilt.
func build(t *testing.T, gen int64, s *store.Store) ([]byte, api.Errno) {
	t.Helper()
	was := toldBy(s)
	b, err := Build(gen, s)
	out := slices.Clone(b)
	spoil(b)
	if again, e := Build(gen, s); e != err || !bytes.Equal(again, out) {
		t.Fatalf("P13.1: Build(%d) = %s, %d, and with that written over %s, %d", gen, short(out), err, short(again), e)
	}
	if is := toldBy(s); !same(is, was) {
		t.Fatalf("P13.1: Build(%d) changed %s to %s", gen, short(was), short(is))
	}
	if err != 0 && len(out) != 0 {
		t.Fatalf("P13.1: Build(%d) = %s beside %d", gen, short(out), err)
	}
	return out, err
}

// read is Read: it must not change the bytes nor their room, and they are spoilt behind it.
func read(t *testing.T, b []byte, now int64) (int64, *store.Store, api.Errno) {
	t.Helper()
	in := with(b)
	gen, s, err := Read(in, now)
	if !unchanged(in, b) {
		t.Fatalf("P13.1: Read(%s, %d) changed what was handed in", short(b), now)
	}
	spoil(in)
	if (err == 0) != (s != nil) || err != 0 && gen != 0 {
		t.Fatalf("P13.1: Read(%s, %d) = %d, a store: %v, %d", short(b), now, gen, s != nil, err)
	}
	return gen, s, err
}

// check holds the bytes of a store against the model, and the way back too.
func check(t *testing.T, gen int64, s *store.Store) []byte {
	t.Helper()
	m := imageOf(gen, s)
	b, err := build(t, gen, s)
	if want := m.bytes(); err != 0 || !bytes.Equal(b, want) {
		t.Fatalf("P13.1: Build(%d, %s) = %s, %d, want %s", gen, short(m), short(b), err, short(want))
	}
	for _, now := range []int64{0, 7, maxTick} {
		if err := checkBytes(t, b, now); err != 0 {
			t.Fatalf("P13.2: Read(Build(%d, %s), %d): %d", gen, short(m), now, err)
		}
		g, x, _ := read(t, b, now)
		if g != gen || !sameButStamps(toldBy(s), toldBy(x)) {
			t.Fatalf("P13.2: Read(Build(%d, %s), %d) = %d, %s", gen, short(toldBy(s)), now, g, short(toldBy(x)))
		}
	}
	return b
}

// checkBytes holds what Read tells against the model, and what it takes against Build.
func checkBytes(t *testing.T, b []byte, now int64) api.Errno {
	t.Helper()
	gen, s, err := read(t, b, now)
	want, wantErr := modelRead(b, now)
	if err != wantErr {
		t.Fatalf("P13.1: Read(%s, %d): %d, want %d", short(b), now, err, wantErr)
	}
	if err != 0 {
		return err
	}
	if gen != int64(want.gen) || !holdsImage(s, want, now) {
		t.Fatalf("P13.1: Read(%s, %d) = %d, %s, want %s", short(b), now, gen, short(toldBy(s)), short(want))
	}
	if again, e := Build(gen, s); e != 0 || !bytes.Equal(again, b) {
		t.Fatalf("P13.2: Build of what Read(%s, %d) tells: %s, %d", short(b), now, short(again), e)
	}
	return 0
}

// refused looks that bytes are refused just so, by the model's word too.
func refused(t *testing.T, what string, b []byte, now int64, want api.Errno) {
	t.Helper()
	if err := checkBytes(t, b, now); err != want {
		t.Errorf("P13.1: %s: Read(%s, %d): %d, want %d", what, short(b), now, err, want)
	}
}

func taken(t *testing.T, what string, b []byte) {
	t.Helper()
	for _, now := range []int64{0, 3, maxTick} {
		refused(t, what, b, now, 0)
	}
}

// Examples.

func hex(t *testing.T, s string) []byte {
	t.Helper()
	var b []byte
	for _, w := range strings.Fields(s) {
		var n byte
		if _, err := fmt.Sscanf(w, "%02x", &n); err != nil {
			t.Fatal(w)
		}
		b = append(b, n)
	}
	return b
}

const (
	emptyBytes = "72 61 6d 70 01 00 00 00 00 00 00 00 01 00 00 00 00 00 00 00 00 c2 7c 34 23"

	abBytes = "72 61 6d 70 01 00 00 00 00 00 00 00 02" +
		" 00 00 00 02 00 00 00 01 61 00 00 00 00 00 01 00 00 00 00 00 01 62 00 00 00 00 00 01 00 00" +
		" 00 00 00 02 00 00 00 01 61 00 00 00 00 00 01 00 00 00 00 00 01 31 00 00 00 02 00 00 00 01 61 00 00 00 01 62" +
		" 00 00 00 01 62 00 00 00 00 00 01 00 00 00 00 00 01 32 00 00 00 02 00 00 00 01 61 00 00 00 01 62 6b b5 f1 0e"

	abcBytes = "72 61 6d 70 01 00 00 00 00 00 00 00 03" +
		" 00 00 00 02 00 00 00 01 61 00 00 00 00 00 02 00 00 00 00 00 01 62 00 00 00 00 00 01 00 00" +
		" 00 00 00 03 00 00 00 01 61 00 00 00 00 00 01 00 00 00 00 00 01 31 00 00 00 02 00 00 00 01 61 00 00 00 01 62" +
		" 00 00 00 01 61 00 00 00 00 00 02 00 00 00 00 00 01 33 00 00 00 01 00 00 00 01 61" +
		" 00 00 00 01 62 00 00 00 00 00 01 00 00 00 00 00 01 32 00 00 00 02 00 00 00 01 61 00 00 00 01 62 c2 d7 f1 93"
)

// builtIs looks that a store's bytes are just these; their checksums were worked out apart from layer 1.
func builtIs(t *testing.T, gen int64, s *store.Store, size int, told string) []byte {
	t.Helper()
	want := hex(t, told)
	if len(want) != size {
		t.Fatalf("the test's bytes are %d", len(want))
	}
	b, err := build(t, gen, s)
	if err != 0 || !bytes.Equal(b, want) {
		t.Errorf("P13.1: Build(%d) = %s, %d, want %s", gen, short(b), err, short(want))
	}
	return want
}

func TestExampleOne(t *testing.T) {
	b := builtIs(t, 1, store.New(), 25, emptyBytes)
	gen, s, err := read(t, b, 0)
	if gen != 1 || err != 0 || len(s.Kept())+len(s.Lasts()) != 0 {
		t.Errorf("P13.1: Read = %d, %d", gen, err)
	}
}

func TestExampleTwo(t *testing.T) {
	b := builtIs(t, 2, ab(t), 115, abBytes)
	gen, s, err := read(t, b, 7)
	both := list("a", "b")
	first := api.Kept{Version: api.Version{Key: "a", ID: one, Value: "1", Keys: both}, Stamp: -1}
	second := api.Kept{Version: api.Version{Key: "b", ID: one, Value: "2", Keys: both}, Stamp: -1}
	want := told{[]api.Kept{first, second}, []api.Last{{Key: "a", ID: one}, {Key: "b", ID: one}}}
	if gen != 2 || err != 0 || !same(toldBy(s), want) {
		t.Fatalf("P13.1: Read = %d, %s, %d", gen, short(toldBy(s)), err)
	}
	b = builtIs(t, 3, abc(t), 142, abcBytes)
	gen, s, err = read(t, b, 7)
	first.Stamp = 7
	third := api.Kept{Version: api.Version{Key: "a", ID: two, Value: "3", Keys: list("a")}, Stamp: -1}
	want = told{[]api.Kept{first, third, second}, []api.Last{{Key: "a", ID: two}, {Key: "b", ID: one}}}
	if gen != 3 || err != 0 || !same(toldBy(s), want) {
		t.Fatalf("P13.1: Read = %d, %s, %d", gen, short(toldBy(s)), err)
	}
}

func TestExampleThree(t *testing.T) {
	b := hex(t, emptyBytes)
	refused(t, "no bytes", nil, 0, errSum)
	for i := range b {
		c := slices.Clone(b)
		c[i] ^= 0x10
		refused(t, "a byte changed", c, 0, errSum)
	}
	for _, c := range []struct {
		gen int64
		s   *store.Store
	}{{0, ab(t)}, {1, nil}} {
		if l, err := build(t, c.gen, c.s); len(l) != 0 || err != errArg {
			t.Errorf("P13.1: Build(%d, %v) = %s, %d", c.gen, c.s != nil, short(l), err)
		}
	}
	refused(t, "the tick -1", b, -1, errArg)
	refused(t, "generation 0", image{}.bytes(), 0, errBad)
	m := imageOf(1, ab(t))
	slices.Reverse(m.lasts)
	refused(t, "lasts out of order", m.bytes(), 0, errBad)
}

// Build.

func TestBuildArguments(t *testing.T) {
	for _, gen := range []int64{math.MinInt64, -1 << 32, -1, 0, 1, 2, 255, 256, 1<<32 + 1, 1<<40 + 1, lastGen - 1, lastGen} {
		if b, err := Build(gen, nil); len(b) != 0 || err != errArg {
			t.Errorf("P13.1: Build(%d, nil) = %s, %d", gen, short(b), err)
		}
		for _, s := range ordinary(t) {
			if gen >= 1 {
				check(t, gen, s)
				continue
			}
			if b, err := build(t, gen, s); len(b) != 0 || err != errArg {
				t.Errorf("P13.1: Build(%d) = %s, %d", gen, short(b), err)
			}
		}
	}
}

func TestPreparedAlone(t *testing.T) {
	s := prepared(t)
	b := check(t, 5, s)
	if at := binary.BigEndian.Uint32(b[13:]); at != 0 {
		t.Errorf("P13.1: %d lasts, none is committed", at)
	}
	_, x, err := read(t, b, 9)
	if err != 0 || len(x.Lasts()) != 0 || len(x.Kept()) != 5 || x.Committed(one) {
		t.Fatalf("P13.1: Read: %s, %d", short(toldBy(x)), err)
	}
	for _, k := range x.Kept() {
		if k.Stamp != -1 {
			t.Errorf("P13.1: %s is prepared alone, its stamp is %d", short(k.Version), k.Stamp)
		}
	}
	// Its Commit is yet to come, and makes those below it old then.
	commit(t, x, two, 11)
	if k := x.Kept(); k[1].Version.ID != one || k[1].Stamp != 11 || k[2].Stamp != -1 {
		t.Errorf("P13.2: behind Commit: %s", short(k))
	}
}

// Below the last: now. The last itself, and what is prepared above it: -1. Each key by its own last.
func TestStamps(t *testing.T) {
	s := store.New()
	for i := range 5 {
		put(t, s, one*api.ID(i+1), int64(i), "k", "l")
	}
	putPairs(t, s, one+9, 5, list("k", "m"), pair("m", "alone"))
	commit(t, s, three, 6)
	putPairs(t, s, one*6, 7, list("l"), pair("l", "above"))
	commit(t, s, one*6, 8)
	b := check(t, 1, s)
	for _, now := range []int64{0, 1, 6, 100, maxTick - 1, maxTick} {
		_, x, err := read(t, b, now)
		if err != 0 {
			t.Fatalf("P13.1: at %d: %d", now, err)
		}
		for _, k := range x.Kept() {
			v, want := k.Version, int64(-1)
			if v.Key == "k" && v.ID < three || v.Key == "l" && v.ID < one*6 {
				want = now
			}
			if k.Stamp != want {
				t.Errorf("P13.1: Read at %d: %s %d has the stamp %d, want %d", now, v.Key, v.ID, k.Stamp, want)
			}
		}
		if len(x.Kept()) != 12 {
			t.Errorf("P13.1: Read at %d: %s", now, short(toldBy(x)))
		}
	}
}

// Stamps are not in the bytes, nor in which order things were done.
func TestSameBytes(t *testing.T) {
	a, b := store.New(), store.New()
	put(t, a, one, 1, "a", "b")
	put(t, a, two, 2, "a", "c")
	commit(t, a, one, 3)
	commit(t, a, two, 4)
	put(t, b, two, 50, "a", "c")
	commit(t, b, two, 60)
	put(t, b, one, 70, "a", "b")
	commit(t, b, one, 80)
	if same(toldBy(a), toldBy(b)) || !sameButStamps(toldBy(a), toldBy(b)) {
		t.Fatal("the test's stores differ by other than stamps")
	}
	if x, y := check(t, 4, a), check(t, 4, b); !bytes.Equal(x, y) {
		t.Errorf("P13.1: stamps are in the bytes: %s and %s", short(x), short(y))
	}
	if x, y := check(t, 4, a), check(t, 5, a); bytes.Equal(x, y) {
		t.Error("P13.1: two generations have the same bytes")
	}
}

// Behind a Drop the last stays, and of a write that is gone nothing.
func TestDropped(t *testing.T) {
	s := abc(t)
	if err := s.Drop("a", one); err != 0 {
		t.Fatal(err)
	}
	b := check(t, 3, s)
	_, x, _ := read(t, b, 1)
	if _, err := x.ByID("a", one); err != api.ErrNone || x.Last("a") != two || len(x.Kept()) != 2 {
		t.Errorf("P13.2: behind a Drop: %s", short(toldBy(x)))
	}
}

// Great ones: above a frame's limit, the longest key, value and Keys, many keys.
func TestGreat(t *testing.T) {
	all := store.New()
	put(t, all, one, 0, numbers(maxSet)...)
	commit(t, all, one, 1)
	put(t, all, two, 1, numbers(maxSet)[100:300]...)
	if b := check(t, lastGen, all); len(b) <= 8<<20 {
		t.Errorf("the test's store has %d bytes only", len(b))
	}
	wide := store.New()
	keys := list("", long(maxBytes-1), long(maxBytes))
	putPairs(t, wide, lastID, 0, keys, pair("", long(maxBytes)), pair(long(maxBytes), long(maxBytes)))
	putPairs(t, wide, lastID-1, 0, keys, pair(long(maxBytes-1), ""), pair(long(maxBytes), long(maxBytes-1)))
	commit(t, wide, lastID, 9)
	check(t, 1, wide)
	many := store.New()
	for i := range 1500 {
		put(t, many, one+api.ID(i), 0, fmt.Sprintf("%04d", i), fmt.Sprintf("%04d", i+1))
		if i%3 != 0 {
			commit(t, many, one+api.ID(i), 1)
		}
	}
	check(t, 77, many)
}

// Read: ticks, short bytes, checksums.

func TestTicks(t *testing.T) {
	good, bad, torn := check(t, 3, mixed(t)), image{}.bytes(), []byte("ramp")
	for _, now := range []int64{math.MinInt64, -maxTick, -2, -1, 0, 1, maxTick - 1, maxTick, maxTick + 1, math.MaxInt64} {
		want := func(err api.Errno) api.Errno {
			if now < 0 || now > maxTick {
				return errArg
			}
			return err
		}
		// A wrong tick is told ahead of all else.
		refused(t, "whole", good, now, want(0))
		refused(t, "generation 0", bad, now, want(errBad))
		refused(t, "torn", torn, now, want(errSum))
		refused(t, "none", nil, now, want(errSum))
	}
}

func TestShort(t *testing.T) {
	empty := hex(t, emptyBytes)
	for _, b := range [][]byte{empty, hex(t, abcBytes), check(t, 9, mixed(t))} {
		for n := range len(b) {
			// Cut, the checksum isn't the one (by chance it could be, which these are not); with one of its own it is bad.
			refused(t, "cut", b[:n], 0, errSum)
			if n < len(b)-4 {
				refused(t, "cut and sealed", sealed(b[:n]), 0, errBad)
			}
		}
	}
	for n := range 4 {
		refused(t, "zeros", make([]byte, n), 0, errSum)
		refused(t, "ones", bytes.Repeat([]byte{255}, n), 0, errSum)
	}
	refused(t, "4 bytes, the checksum of none", make([]byte, 4), 0, errBad)
	refused(t, "4 bytes", []byte{0, 0, 0, 1}, 0, errSum)
	refused(t, "4 bytes", []byte("ramp"), 0, errSum)
	refused(t, "24 bytes", empty[:24], 0, errSum)
	refused(t, "24 bytes, sealed", sealed(empty[:20]), 0, errBad)
	refused(t, "24 bytes from the second on", empty[1:], 0, errSum)
}

func TestChecksum(t *testing.T) {
	for _, s := range ordinary(t) {
		b := check(t, 6, s)
		end := len(b) - 4
		turned := slices.Clone(b)
		slices.Reverse(turned[end:])
		inverse := slices.Clone(b)
		for i := range 4 {
			inverse[end+i] = ^inverse[end+i]
		}
		refused(t, "the checksum's lowest byte first", turned, 0, errSum)
		refused(t, "its bits turned", inverse, 0, errSum)
		refused(t, "zeros", append(slices.Clone(b[:end]), 0, 0, 0, 0), 0, errSum)
		refused(t, "none", b[:end], 0, errSum)
		refused(t, "ahead of the rest", append(slices.Clone(b[end:]), b[:end]...), 0, errSum)
		refused(t, "two", sealed(b), 0, errBad)
		// Wrong in two ways: the checksum is told first.
		wrong := append(image{}.body(), b[end:]...)
		refused(t, "generation 0, and the checksum of other bytes", wrong, 0, errSum)
	}
}

// Read: bytes that no store has, the checksum right.

// lawfulImage has all that faults are made of: several keys, two IDs of one, one prepared above the last, Keys that are not all here.
func lawfulImage() image {
	v := func(key string, id api.ID, value string, keys ...string) api.Version {
		return api.Version{Key: key, ID: id, Value: value, Keys: keys}
	}
	return image{
		gen:   7,
		lasts: []api.Last{{Key: "a", ID: two}, {Key: "b", ID: one}},
		versions: []api.Version{
			v("a", one, "x", "a", "b"), v("a", two, "y", "a", "far"), v("a", three, "", "a"),
			v("b", one, "z", "a", "b"), v("c", three, "w", "a", "c"),
		},
	}
}

// changed is the bytes of the lawful image with something done to it.
func changed(f func(m *image)) []byte {
	m := lawfulImage()
	f(&m)
	return m.bytes()
}

func TestLawful(t *testing.T) {
	set := func(i int, v api.Version) func(m *image) { return func(m *image) { m.versions[i] = v } }
	for what, f := range map[string]func(m *image){
		"as it is":             func(m *image) {},
		"generation 1":         func(m *image) { m.gen = 1 },
		"greatest generation":  func(m *image) { m.gen = 1<<63 - 1 },
		"no lasts":             func(m *image) { m.lasts = nil },
		"one last":             func(m *image) { m.lasts = m.lasts[1:] },
		"last of the greatest": func(m *image) { m.lasts[0].ID = three },
		"last of the least":    func(m *image) { m.lasts[0].ID = one },
		"nothing":              func(m *image) { m.lasts, m.versions = nil, nil },
		"nothing is old":       func(m *image) { m.versions = m.versions[1:] },
		"the greatest ID":      func(m *image) { m.versions[2].ID = lastID },
		"the least ID":         func(m *image) { m.versions[4].ID = one },
		"other clients' IDs":   func(m *image) { m.versions[2].ID, m.versions[4].ID = two+1, one+65535 },
		"the longest value":    func(m *image) { m.versions[1].Value = long(maxBytes) },
		"the longest key":      set(4, api.Version{Key: long(maxBytes), ID: one, Keys: list(long(maxBytes))}),
		"the longest in Keys":  func(m *image) { m.versions[4].Keys = list("c", long(maxBytes)) },
		"the most Keys":        func(m *image) { m.versions[4].Keys = append(numbers(maxSet-1), "c") },
		"the empty key":        func(m *image) { m.versions[0].Keys = list("", "a") },
		"one write, two Keys":  func(m *image) { m.versions[3].Keys = list("b", "other") },
		"a key and its like":   set(4, api.Version{Key: "b\x00", ID: one, Keys: list("b", "b\x00")}),
	} {
		taken(t, what, changed(f))
	}
}

func TestUnlawful(t *testing.T) {
	swap := func(i, j int) func(m *image) {
		return func(m *image) { m.versions[i], m.versions[j] = m.versions[j], m.versions[i] }
	}
	id := func(i int, id api.ID) func(m *image) { return func(m *image) { m.versions[i].ID = id } }
	keys := func(i int, keys ...string) func(m *image) { return func(m *image) { m.versions[i].Keys = keys } }
	add := func(key string, id api.ID) func(m *image) {
		return func(m *image) { m.lasts = append(m.lasts, api.Last{Key: key, ID: id}) }
	}
	last := func(i int, l api.Last) func(m *image) { return func(m *image) { m.lasts[i] = l } }
	for what, f := range map[string]func(m *image){
		"generation 0":              func(m *image) { m.gen = 0 },
		"generation -1":             func(m *image) { m.gen = 1<<64 - 1 },
		"generation 2^63":           func(m *image) { m.gen = 1 << 63 },
		"lasts out of order":        func(m *image) { slices.Reverse(m.lasts) },
		"a last twice":              func(m *image) { m.lasts = append(m.lasts, m.lasts[1]) },
		"a last twice, ahead":       func(m *image) { m.lasts = append(m.lasts[:1:1], m.lasts...) },
		"a last twice, two IDs":     func(m *image) { m.lasts = []api.Last{{Key: "a", ID: one}, {Key: "a", ID: two}} },
		"a last twice, IDs falling": func(m *image) { m.lasts = []api.Last{{Key: "a", ID: two}, {Key: "a", ID: one}} },
		"a last of no key":          add("d", one),
		"a last of the empty key":   func(m *image) { m.lasts = append([]api.Last{{Key: "", ID: one}}, m.lasts...) },
		"a last of no version":      add("c", one),
		"a last of bottom":          add("c", 0),
		"a last 65535":              add("c", 65535),
		"a last above all":          last(0, api.Last{Key: "a", ID: lastID}),
		"a last between":            last(0, api.Last{Key: "a", ID: one + 1}),
		"a last of another key":     last(1, api.Last{Key: "b", ID: two}),
		"a last of its Keys' key":   add("far", two),
		"lasts without versions":    func(m *image) { m.versions = nil },
		"a last's key too long":     add(long(maxBytes+1), one),
		"keys out of order":         swap(3, 4),
		"IDs out of order":          swap(0, 1),
		"all out of order":          func(m *image) { slices.Reverse(m.versions) },
		"a version twice":           func(m *image) { m.versions = append(m.versions, m.versions[4]) },
		"a version twice, ahead":    func(m *image) { m.versions = append(m.versions[:1:1], m.versions...) },
		"twice with other values": func(m *image) {
			m.versions = append(m.versions, api.Version{Key: "c", ID: three, Value: "other", Keys: list("c")})
		},
		"an ID twice":         id(1, one),
		"ID 0":                id(0, 0),
		"ID 1":                id(4, 1),
		"ID 65535":            id(4, 65535),
		"ID 65535 ahead":      id(0, 65535),
		"no Keys":             keys(4),
		"Keys out of order":   keys(4, "c", "a"),
		"Keys twice":          keys(4, "a", "c", "c"),
		"Keys twice, ahead":   keys(4, "a", "a", "c"),
		"its key not in Keys": keys(4, "a", "b"),
		"a like in Keys":      keys(4, "a", "c\x00"),
		"a key too long":      func(m *image) { m.versions[4].Key, m.versions[4].Keys = long(maxBytes+1), list(long(maxBytes+1)) },
		"Keys too long":       keys(4, "c", long(maxBytes+1)),
		"too many Keys":       keys(4, append(numbers(maxSet), "c")...),
		"twice too many Keys": keys(4, append(numbers(2*maxSet), "c")...),
		"a value too long":    func(m *image) { m.versions[1].Value = long(maxBytes + 1) },
		"a value of 1 << 20":  func(m *image) { m.versions[1].Value = long(1 << 20) },
		"the empty key alone": func(m *image) { m.versions[0].Key = "" },
	} {
		for _, now := range []int64{0, 5, maxTick} {
			refused(t, what, changed(f), now, errBad)
		}
	}
}

func TestTooMany(t *testing.T) {
	for _, s := range ordinary(t) {
		b := check(t, 4, s)
		body := b[:len(b)-4]
		for _, behind := range []string{"\x00", "\x01", "\xff", "\x00\x00\x00\x00", "ramp", string(b), string(body), strings.Repeat("\x00", 100)} {
			refused(t, "bytes behind", sealed(append(slices.Clone(body), behind...)), 0, errBad)
			refused(t, "bytes ahead", sealed(append([]byte(behind), body...)), 0, errBad)
			refused(t, "bytes behind the checksum", append(slices.Clone(b), behind...), 0, errSum)
		}
	}
}

// Every other byte in each place, under a right checksum.
func TestEveryByte(t *testing.T) {
	count := map[api.Errno]int{}
	for _, told := range []string{emptyBytes, abBytes, abcBytes} {
		b := hex(t, told)
		body := b[:len(b)-4]
		for i := range body {
			for c := range 256 {
				other := slices.Clone(body)
				other[i] = byte(c)
				err := checkBytes(t, sealed(other), 4)
				if i < 5 && (err == 0) != (other[i] == body[i]) {
					t.Fatalf("P13.1: with the mark %q: %d", other[:5], err)
				}
				count[err]++
			}
		}
	}
	if count[0] == 0 || count[errBad] == 0 || len(count) != 2 {
		t.Errorf("the test's bytes are answered %v", count)
	}
}

// A count that claims what the bytes don't hold is refused at once, without room made for it.
func TestClaims(t *testing.T) {
	m := lawfulImage()
	body := m.body()
	versionsAt := len(image{lasts: m.lasts}.body()) - 4
	lengths := []int{13, 17, versionsAt, versionsAt + 4, versionsAt + 17, versionsAt + 22, versionsAt + 26}
	for _, at := range lengths {
		for _, n := range []uint32{math.MaxUint32, 1 << 31, 1<<31 - 1, 1 << 24, 1 << 17, uint32(len(body)), uint32(len(body) - at)} {
			other := slices.Clone(body)
			binary.BigEndian.PutUint32(other[at:], n)
			b := sealed(other)
			var ahead, behind runtime.MemStats
			runtime.ReadMemStats(&ahead)
			_, s, err := Read(b, 0)
			runtime.ReadMemStats(&behind)
			if s != nil || err != errBad {
				t.Errorf("P13.1: the number at %d as %d: %d", at, n, err)
			}
			if took := behind.TotalAlloc - ahead.TotalAlloc; took > 1<<17 {
				t.Errorf("P13.1: the number at %d as %d: %d bytes of memory for %d", at, n, took, len(b))
			}
			refused(t, "claims", b, 0, errBad)
		}
	}
}

// Bursts.

// turn is bytes with a burst turned: from the bit start on, counted from the lowest of each byte, those that pattern says.
func turn(b []byte, start int, pattern uint32) []byte {
	out := slices.Clone(b)
	for i := range 32 {
		if pattern>>i&1 == 1 {
			out[(start+i)/8] ^= 1 << ((start + i) % 8)
		}
	}
	return out
}

// bursts calls f with bursts of n bits, the first and the last of them turned: all, none and chance ones between.
func bursts(c chance, n int, f func(pattern uint32)) {
	ends := uint32(1) | 1<<(n-1)
	f(ends)
	if n > 2 {
		f(math.MaxUint32 >> (32 - n))
		f(ends | c.Uint32()>>(32-n))
	}
}

func TestBursts(t *testing.T) {
	c := newChance(1)
	stores := ordinary(t)
	for i := range 3 {
		stores = append(stores, c.grown(t, 3+3*i))
	}
	for _, s := range stores {
		b := check(t, 1+c.Int63n(1<<40), s)
		end := len(b) - 4
		for _, part := range [][2]int{{0, end * 8}, {end * 8, len(b) * 8}} {
			for start := part[0]; start < part[1]; start++ {
				for n := 1; n <= min(32, part[1]-start); n++ {
					bursts(c, n, func(pattern uint32) { burstIsTold(t, b, start, pattern) })
				}
			}
		}
	}
}

func burstIsTold(t *testing.T, b []byte, start int, pattern uint32) {
	t.Helper()
	if gen, s, err := Read(turn(b, start, pattern), 3); gen != 0 || s != nil || err != errSum {
		t.Fatalf("P13.3: %s with %b turned from bit %d on: %d, %d", short(b), pattern, start, gen, err)
	}
}

// Each burst of up to ten bits, of a short snapshot.
func TestShortBursts(t *testing.T) {
	b := hex(t, emptyBytes)
	for pattern := uint32(1); pattern < 1<<10; pattern++ {
		for start := range len(b) * 8 {
			to := start + 32 - bitsAbove(pattern)
			if inBody := to <= 21*8; inBody || start >= 21*8 && to <= 25*8 {
				burstIsTold(t, b, start, pattern)
			}
		}
	}
}

// bitsAbove is how many bits stand above the highest that is 1.
func bitsAbove(pattern uint32) int {
	n := 0
	for pattern>>31 == 0 {
		pattern <<= 1
		n++
	}
	return n
}

// Chance: stores and bytes, the same for the same seed.

type chance struct{ *rand.Rand }

func newChance(seed int64) chance { return chance{rand.New(rand.NewSource(seed))} }

func (c chance) key() string {
	l := []string{"", "\x00", "a", "a\x00", "aa", "b", "key", "\x7f", "\x80", "\xff", "\xff\xff"}
	return l[c.Intn(len(l))]
}

func (c chance) keys() []string {
	var out []string
	for range 1 + c.Intn(5) {
		out = append(out, c.key())
	}
	slices.Sort(out)
	return slices.Compact(out)
}

func (c chance) id() api.ID {
	l := []api.ID{one, one + 1, one + 65535, two, two + 3, three, 1 << 32, 1 << 48, 1<<63 - 1, 1 << 63, lastID - 1, lastID}
	return l[c.Intn(len(l))]
}

func (c chance) value() string {
	b := make([]byte, c.Intn(12))
	c.Read(b)
	return string(b)
}

// call is one thing that is done to a store.
type call struct {
	kind  int
	id    api.ID
	keys  []string
	pairs []api.Pair
	now   int64
}

const (
	putCall = iota
	commitCall
	dropCall
)

func (c chance) call(now int64) call {
	out := call{kind: c.Intn(3), id: c.id(), keys: c.keys(), now: now}
	for _, key := range out.keys {
		if c.Intn(4) != 0 {
			out.pairs = append(out.pairs, pair(key, c.value()))
		}
	}
	return out
}

func (c chance) calls(n int, now int64) []call {
	var out []call
	for range n {
		now += c.Int63n(3)
		out = append(out, c.call(now))
	}
	return out
}

// do does it: what the store answers, as a text.
func (k call) do(s *store.Store) string {
	switch k.kind {
	case putCall:
		fresh, err := s.Put(k.id, k.pairs, k.keys, k.now)
		return fmt.Sprint(fresh, err)
	case commitCall:
		n, err := s.Commit(k.id, k.now)
		return fmt.Sprint(n, err)
	}
	return fmt.Sprint(s.Drop(k.keys[0], k.id))
}

// grown is a store of chance.
func (c chance) grown(t *testing.T, n int) *store.Store {
	t.Helper()
	s := store.New()
	for _, k := range c.calls(n, c.Int63n(5)) {
		k.do(s)
	}
	return s
}

func (c chance) gen() int64 {
	if c.Intn(4) == 0 {
		return 1 + c.Int63n(300)
	}
	return 1 + c.Int63n(math.MaxInt64)
}

func TestThereAndBack(t *testing.T) {
	old, fresh, empty := 0, 0, 0
	for seed := range int64(600) {
		c := newChance(seed)
		s := c.grown(t, c.Intn(60))
		check(t, c.gen(), s)
		if len(s.Kept()) == 0 {
			empty++
		}
		for _, k := range s.Kept() {
			if k.Stamp == -1 {
				fresh++
			} else {
				old++
			}
		}
	}
	if old < 1000 || fresh < 1000 || empty < 5 {
		t.Errorf("the test's stores have %d old versions and %d others, %d are empty", old, fresh, empty)
	}
}

// The store that is told is the one that was laid, later too: it answers all as that one does whose stamps are the tick of Read.
func TestGoesOn(t *testing.T) {
	for seed := range int64(300) {
		c := newChance(10000 + seed)
		s := c.grown(t, c.Intn(40))
		now := c.Int63n(100)
		b, _ := Build(c.gen(), s)
		_, x, err := read(t, b, now)
		if err != 0 {
			t.Fatalf("P13.2: seed %d: %d", seed, err)
		}
		kept := s.Kept()
		for i := range kept {
			if kept[i].Stamp != -1 {
				kept[i].Stamp = now
			}
		}
		y, err := store.Load(kept, s.Lasts())
		if err != 0 {
			t.Fatalf("the test's Load: %d", err)
		}
		for i, k := range c.calls(40, now) {
			first, second, third := k.do(x), k.do(y), k.do(s)
			if first != second || first != third || !same(toldBy(x), toldBy(y)) || !sameButStamps(toldBy(x), toldBy(s)) {
				t.Fatalf("P13.2: seed %d: behind call %d, %+v: %s and %s, %s and %s", seed, i, k, first, second, short(toldBy(x)), short(toldBy(y)))
			}
		}
	}
}

// mangled is an image with things done to it that may make it unlawful.
func (c chance) mangled(m image) image {
	m.lasts, m.versions = slices.Clone(m.lasts), slices.Clone(m.versions)
	for range 1 + c.Intn(2) {
		if n := len(m.lasts); n > 0 && c.Intn(2) == 0 {
			c.mangleLast(&m, c.Intn(n))
		}
		if n := len(m.versions); n > 0 && c.Intn(2) == 0 {
			c.mangleVersion(&m, c.Intn(n))
		}
	}
	return m
}

func (c chance) mangleLast(m *image, i int) {
	switch c.Intn(4) {
	case 0:
		m.lasts[i].ID = c.id()
	case 1:
		m.lasts[i].Key = c.key()
	case 2:
		m.lasts = slices.Delete(m.lasts, i, i+1)
	case 3:
		m.lasts = slices.Insert(m.lasts, i, api.Last{Key: c.key(), ID: c.id()})
	}
}

func (c chance) mangleVersion(m *image, i int) {
	switch c.Intn(6) {
	case 0:
		m.versions[i].ID = c.id()
	case 1:
		m.versions[i].Key = c.key()
	case 2:
		m.versions = slices.Delete(m.versions, i, i+1)
	case 3:
		keys := c.keys()
		m.versions = slices.Insert(m.versions, i, api.Version{Key: keys[0], ID: c.id(), Keys: keys})
	case 4:
		m.versions[i].Keys = c.keys()
	case 5:
		j := c.Intn(len(m.versions))
		m.versions[i], m.versions[j] = m.versions[j], m.versions[i]
	}
}

func TestMangled(t *testing.T) {
	count := map[api.Errno]int{}
	for seed := range int64(3000) {
		c := newChance(20000 + seed)
		m := imageOf(c.gen(), c.grown(t, 3+c.Intn(15)))
		for range 5 {
			count[checkBytes(t, c.mangled(m).bytes(), c.Int63n(50))]++
		}
	}
	if count[0] < 1000 || count[errBad] < 1000 {
		t.Errorf("the test's bytes are answered %v", count)
	}
}

// Bytes of a store with some written over, taken out or put in, the checksum right or as it was.
func TestBytesOfChance(t *testing.T) {
	for seed := range int64(3000) {
		c := newChance(30000 + seed)
		body := imageOf(c.gen(), c.grown(t, c.Intn(12))).body()
		for range 1 + c.Intn(3) {
			at := c.Intn(len(body))
			switch c.Intn(3) {
			case 0:
				body[at] = byte(c.Intn(256))
			case 1:
				body = slices.Delete(body, at, min(at+1+c.Intn(6), len(body)))
			case 2:
				body = slices.Insert(body, at, make([]byte, 1+c.Intn(6))...)
			}
			if len(body) == 0 {
				break
			}
		}
		checkBytes(t, sealed(body), 1)
		checkBytes(t, append(body, 1, 2, 3, 4), 1)
		noise := make([]byte, c.Intn(80))
		c.Read(noise)
		checkBytes(t, noise, 1)
		checkBytes(t, sealed(noise), 1)
	}
}

// Apart.

func TestApart(t *testing.T) {
	for seed := range int64(200) {
		c := newChance(40000 + seed)
		s := c.grown(t, 10+c.Intn(40))
		b, _ := Build(c.gen(), s)
		in := slices.Clone(b)
		_, x, _ := Read(in, 20)
		_, y, _ := Read(in, 20)
		wasS, wasY := toldBy(s), toldBy(y)
		for _, k := range c.calls(40, 20) {
			k.do(x)
		}
		if same(toldBy(x), wasY) {
			continue
		}
		_, z, _ := Read(in, 20)
		if !same(toldBy(s), wasS) || !same(toldBy(y), wasY) || !bytes.Equal(in, b) || !same(toldBy(z), wasY) {
			t.Fatalf("P13.4: seed %d: what was done to a store that was told changed another, or the bytes", seed)
		}
		wasX := toldBy(x)
		for _, k := range c.calls(40, 60) {
			k.do(s)
			k.do(y)
		}
		spoil(in)
		if !same(toldBy(x), wasX) || !same(toldBy(z), wasY) {
			t.Fatalf("P13.4: seed %d: what was done to another, or to the bytes, changed a store that was told", seed)
		}
		if again, err := Build(1, x); err != 0 || !bytes.Equal(again, imageOf(1, x).bytes()) {
			t.Fatalf("P13.4: seed %d: Build behind the bytes were written over: %d", seed, err)
		}
	}
}

// Each thing that can be done to it by itself.
func TestApartOneByOne(t *testing.T) {
	b := hex(t, abcBytes)
	for what, f := range map[string]func(s *store.Store){
		"Put of a new key":     func(s *store.Store) { put(t, s, three, 9, "new") },
		"Put above the last":   func(s *store.Store) { put(t, s, three, 9, "a", "b") },
		"Put below the last":   func(s *store.Store) { put(t, s, one+1, 9, "a") },
		"Commit":               func(s *store.Store) { put(t, s, three, 9, "b"); commit(t, s, three, 10) },
		"Drop":                 func(s *store.Store) { s.Drop("a", one) },
		"Drop, and Put again":  func(s *store.Store) { s.Drop("a", one); put(t, s, one, 30, "a") },
		"what Kept told":       func(s *store.Store) { k := s.Kept(); k[0].Version.Keys[0] = "!"; put(t, s, three, 9, "c") },
		"what Lasts told":      func(s *store.Store) { s.Lasts()[0].ID = 1; put(t, s, three, 9, "c") },
		"what Latest told":     func(s *store.Store) { s.Latest("b").Keys[1] = "!"; put(t, s, three, 9, "c") },
		"what was put, by all": func(s *store.Store) { put(t, s, lastID, 9, "a", "b", "c"); commit(t, s, lastID, 9) },
	} {
		in := slices.Clone(b)
		_, x, _ := Read(in, 7)
		_, y, _ := Read(in, 7)
		was := toldBy(y)
		f(x)
		if same(toldBy(x), was) {
			t.Errorf("the test's %s did nothing", what)
		}
		if !same(toldBy(y), was) || !bytes.Equal(in, b) {
			t.Errorf("P13.4: %s changed another store, or the bytes", what)
		}
	}
}
