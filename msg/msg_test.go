package msg

import (
	"bytes"
	"encoding/binary"
	"fmt"
	"math/rand"
	"slices"
	"sort"
	"strings"
	"testing"

	"rampart/api"
)

// The chapter's numbers, not api's.
const (
	mostKeys   = 1024
	mostBytes  = 65535 // of a key, of a value
	longest    = 1048576
	leastID    = 65536
	greatestID = 1<<64 - 1
)

// The kinds by the numbers of the chapter's table.
const (
	kPrepare   = 1
	kCommit    = 2
	kLatest    = 3
	kByID      = 4
	kPrepared  = 5
	kCommitted = 6
	kVersions  = 7
	kNack      = 8
)

// The model of which messages may be: each kind by itself, from the chapter's table.

func modelMay(m api.Message) bool {
	if m.Client < 0 || m.Client > 15 || m.Req == 0 {
		return false
	}
	id, keys, pairs, wants, vers := m.ID != 0, len(m.Keys) != 0, len(m.Pairs) != 0, len(m.Wants) != 0, len(m.Versions) != 0
	switch m.Kind {
	case kPrepare:
		return !wants && !vers && m.ID >= leastID && modelSet(m.Keys) && modelPairs(m)
	case kCommit, kPrepared, kCommitted, kNack:
		return !keys && !pairs && !wants && !vers && m.ID >= leastID
	case kLatest:
		return !id && !pairs && !wants && !vers && modelRequest(m.Keys)
	case kByID:
		var names []string
		for _, w := range m.Wants {
			if w.ID < leastID {
				return false
			}
			names = append(names, w.Key)
		}
		return !id && !keys && !pairs && !vers && modelRequest(names)
	case kVersions:
		return !id && !keys && !pairs && !wants && len(m.Versions) == 1 && modelVersion(m.Versions[0])
	}
	return false
}

// modelRequest tells whether these are keys of a request: 1 to 1024, short, none twice.
func modelRequest(l []string) bool {
	seen := map[string]bool{}
	for _, k := range l {
		if seen[k] || len(k) > mostBytes {
			return false
		}
		seen[k] = true
	}
	return len(l) >= 1 && len(l) <= mostKeys
}

// modelSet tells whether these are the keys of a write: those of a request, in order.
func modelSet(l []string) bool { return modelRequest(l) && sort.StringsAreSorted(l) }

func modelPairs(m api.Message) bool {
	for i, p := range m.Pairs {
		if len(p.Value) > mostBytes || !slices.Contains(m.Keys, p.Key) || i > 0 && m.Pairs[i-1].Key >= p.Key {
			return false
		}
	}
	return len(m.Pairs) >= 1
}

func modelVersion(v api.Version) bool {
	if v.ID == 0 {
		return len(v.Key) <= mostBytes && v.Value == "" && len(v.Keys) == 0
	}
	return v.ID >= leastID && len(v.Key) <= mostBytes && len(v.Value) <= mostBytes && modelSet(v.Keys) && slices.Contains(v.Keys, v.Key)
}

// The model of bodies: bytes put behind one another.

func be32(n int) []byte { return binary.BigEndian.AppendUint32(nil, uint32(n)) }

func be64(n uint64) []byte { return binary.BigEndian.AppendUint64(nil, n) }

func text(s string) []byte { return append(be32(len(s)), s...) }

func texts(l []string) []byte {
	b := be32(len(l))
	for _, s := range l {
		b = append(b, text(s)...)
	}
	return b
}

// modelBody is the body of a message, one that may not be too, as far as its kind has fields.
func modelBody(m api.Message) []byte {
	b := append([]byte{byte(m.Kind), byte(m.Client)}, be64(m.Req)...)
	switch m.Kind {
	case kPrepare:
		b = append(b, be64(uint64(m.ID))...)
		b = append(b, texts(m.Keys)...)
		b = append(b, be32(len(m.Pairs))...)
		for _, p := range m.Pairs {
			b = append(append(b, text(p.Key)...), text(p.Value)...)
		}
	case kLatest:
		b = append(b, texts(m.Keys)...)
	case kByID:
		b = append(b, be32(len(m.Wants))...)
		for _, w := range m.Wants {
			b = append(append(b, text(w.Key)...), be64(uint64(w.ID))...)
		}
	case kVersions:
		for _, v := range m.Versions {
			b = append(append(b, text(v.Key)...), be64(uint64(v.ID))...)
			if v.ID != 0 {
				b = append(append(b, text(v.Value)...), texts(v.Keys)...)
			}
		}
	default:
		b = append(b, be64(uint64(m.ID))...)
	}
	return b
}

func framed(body []byte) []byte { return append(be32(len(body)), body...) }

// scan reads without any of the chapter's limits: only that the bytes are there.
type scan struct {
	b   []byte
	bad bool
}

func (s *scan) take(n uint64) []byte {
	if s.bad || uint64(len(s.b)) < n {
		s.bad = true
		return make([]byte, min(n, 8))
	}
	b := s.b[:n]
	s.b = s.b[n:]
	return b
}

func (s *scan) u8() int { return int(s.take(1)[0]) }

func (s *scan) u32() uint64 { return uint64(binary.BigEndian.Uint32(s.take(4))) }

func (s *scan) u64() uint64 { return binary.BigEndian.Uint64(s.take(8)) }

func (s *scan) text() string { return string(s.take(s.u32())) }

func (s *scan) texts() []string {
	var l []string
	for n := s.u32(); n > 0 && !s.bad; n-- {
		l = append(l, s.text())
	}
	return l
}

// modelRead is the message of which b could be the body. What it answers may be, or not.
func modelRead(b []byte) (api.Message, bool) {
	s := &scan{b: b}
	m := api.Message{Kind: s.u8(), Client: s.u8(), Req: s.u64()}
	switch m.Kind {
	case kPrepare:
		m.ID = api.ID(s.u64())
		m.Keys = s.texts()
		for n := s.u32(); n > 0 && !s.bad; n-- {
			key := s.text()
			m.Pairs = append(m.Pairs, api.Pair{Key: key, Value: s.text()})
		}
	case kLatest:
		m.Keys = s.texts()
	case kByID:
		for n := s.u32(); n > 0 && !s.bad; n-- {
			key := s.text()
			m.Wants = append(m.Wants, api.Want{Key: key, ID: api.ID(s.u64())})
		}
	case kVersions:
		v := api.Version{Key: s.text()}
		if v.ID = api.ID(s.u64()); v.ID != 0 {
			v.Value = s.text()
			v.Keys = s.texts()
		}
		m.Versions = []api.Version{v}
	default:
		m.ID = api.ID(s.u64())
	}
	return m, !s.bad && len(s.b) == 0
}

// modelDecode is the chapter's list of errors, in its order.
func modelDecode(b []byte) (api.Message, api.Errno) {
	if len(b) < 4 {
		return api.Message{}, api.ErrShort
	}
	size := uint64(binary.BigEndian.Uint32(b))
	behind := uint64(len(b) - 4)
	if size > longest {
		return api.Message{}, api.ErrLong
	}
	if behind < size {
		return api.Message{}, api.ErrShort
	}
	if behind > size {
		return api.Message{}, api.ErrTrail
	}
	m, whole := modelRead(b[4:])
	if !whole || !modelMay(m) {
		return api.Message{}, api.ErrBad
	}
	return m, api.OK
}

// Messages held against each other, told, copied with room, spoilt.

func sameVersion(a, b api.Version) bool {
	return a.Key == b.Key && a.ID == b.ID && a.Value == b.Value && slices.Equal(a.Keys, b.Keys)
}

// same tells whether two messages are equal field by field; nil and empty lists are the same.
func same(a, b api.Message) bool {
	return a.Kind == b.Kind && a.Client == b.Client && a.Req == b.Req && a.ID == b.ID &&
		slices.Equal(a.Pairs, b.Pairs) && slices.Equal(a.Keys, b.Keys) && slices.Equal(a.Wants, b.Wants) &&
		slices.EqualFunc(a.Versions, b.Versions, sameVersion)
}

// short tells a thing, but not all of a long one.
func short(x any) string {
	s := fmt.Sprintf("%+q", x)
	if b, ok := x.([]byte); ok {
		s = fmt.Sprintf("[% x]", b)
	}
	if m, ok := x.(api.Message); ok {
		s = fmt.Sprintf("%#v", m)
	}
	if len(s) > 400 {
		return s[:300] + " and on, " + fmt.Sprint(len(s)) + " signs in all"
	}
	return s
}

// spare is how many elements of room stand behind each list that is handed in.
const spare = 3

// with is a copy of a list with room behind it, in which mark stands.
func with[T any](l []T, mark T) []T {
	out := make([]T, 0, len(l)+spare)
	out = append(out, l...)
	for range spare {
		out = append(out, mark)
	}
	return out[:len(l)]
}

// holds tells whether a list is this one still, and its room holds marks.
func holds[T any](l, was []T, mark T, same func(a, b T) bool) bool {
	for _, x := range l[len(l) : len(l)+spare] {
		if !same(x, mark) {
			return false
		}
	}
	return slices.EqualFunc(l, was, same)
}

func equal[T comparable](a, b T) bool { return a == b }

// fill writes x into all of a list, its room too.
func fill[T any](l []T, x T) {
	l = l[:cap(l)]
	for i := range l {
		l[i] = x
	}
}

const mark = "\xA5mark"

var (
	markPair = api.Pair{Key: mark, Value: mark}
	markWant = api.Want{Key: mark, ID: 0xA5A5A5A5}
	markVer  = api.Version{Key: mark, ID: 0xA5A5A5A5, Value: mark}
)

// roomy is a copy of a message whose lists have room.
func roomy(m api.Message) api.Message {
	m.Pairs = with(m.Pairs, markPair)
	m.Keys = with(m.Keys, mark)
	m.Wants = with(m.Wants, markWant)
	m.Versions = with(m.Versions, markVer)
	for i := range m.Versions {
		m.Versions[i].Keys = with(m.Versions[i].Keys, mark)
	}
	return m
}

// isRoomy tells whether in is as roomy(m) made it.
func isRoomy(in, m api.Message) bool {
	for i := range in.Versions {
		if !holds(in.Versions[i].Keys, m.Versions[i].Keys, mark, equal[string]) {
			return false
		}
	}
	return same(in, m) && holds(in.Pairs, m.Pairs, markPair, equal[api.Pair]) && holds(in.Keys, m.Keys, mark, equal[string]) &&
		holds(in.Wants, m.Wants, markWant, equal[api.Want]) && holds(in.Versions, m.Versions, markVer, sameVersion)
}

// spoil writes over all lists of a message.
func spoil(m api.Message) {
	for _, v := range m.Versions {
		fill(v.Keys, "!")
	}
	fill(m.Pairs, api.Pair{Key: "!", Value: "!"})
	fill(m.Keys, "!")
	fill(m.Wants, api.Want{Key: "!", ID: 33})
	fill(m.Versions, api.Version{Key: "!", ID: 33})
}

// The calls, each with what it is handed spoilt ahead of a look at its answer.

// told is what the three calls answer about a message.
type told struct {
	may     bool
	size    int
	sizeErr api.Errno
	bytes   []byte
	err     api.Errno
}

func ask(t *testing.T, m api.Message) told {
	t.Helper()
	var a told
	each := func(name string, call func(in api.Message)) {
		in := roomy(m)
		call(in)
		if !isRoomy(in, m) {
			t.Fatalf("P8.5: %s(%s) changed what was handed in", name, short(m))
		}
		spoil(in)
	}
	each("May", func(in api.Message) { a.may = May(in) })
	each("Size", func(in api.Message) { a.size, a.sizeErr = Size(in) })
	each("Encode", func(in api.Message) { a.bytes, a.err = Encode(in) })
	return a
}

// check holds what is told about a message against the model.
func check(t *testing.T, m api.Message) {
	t.Helper()
	a := ask(t, m)
	if !modelMay(m) {
		if a.may || a.size != 0 || a.sizeErr != api.ErrArg || len(a.bytes) != 0 || a.err != api.ErrArg {
			t.Fatalf("P8.1: %s may not be: May %v, Size %d %d, Encode %d bytes %d", short(m), a.may, a.size, a.sizeErr, len(a.bytes), a.err)
		}
		return
	}
	body := modelBody(m)
	if !a.may || a.size != len(body) || a.sizeErr != api.OK {
		t.Fatalf("P8.1: %s may be: May %v, Size %d %d, want %d", short(m), a.may, a.size, a.sizeErr, len(body))
	}
	if len(body) > longest {
		if len(a.bytes) != 0 || a.err != api.ErrLong {
			t.Fatalf("P8.1: %s is too long: Encode %d bytes, %d", short(m), len(a.bytes), a.err)
		}
		return
	}
	if a.err != api.OK || !bytes.Equal(a.bytes, framed(body)) {
		t.Fatalf("P8.1: Encode(%s): %s %d, want %s", short(m), short(a.bytes), a.err, short(framed(body)))
	}
	back, err := decode(t, a.bytes)
	if err != api.OK || !same(back, m) {
		t.Fatalf("P8.2: Decode of Encode(%s): %s, %d", short(m), short(back), err)
	}
}

// decode calls Decode, and spoils what it handed in ahead of looking at the answer.
func decode(t *testing.T, b []byte) (api.Message, api.Errno) {
	t.Helper()
	in := with(b, 0xA5)
	m, err := Decode(in)
	if !holds(in, b, 0xA5, equal[byte]) {
		t.Fatalf("P8.5: Decode(%s) changed what was handed in", short(b))
	}
	fill(in, '!')
	return m, err
}

// checkBytes holds what Decode tells against the model, and what it takes against Encode.
func checkBytes(t *testing.T, b []byte) api.Errno {
	t.Helper()
	m, err := decode(t, b)
	want, wantErr := modelDecode(b)
	if err != wantErr || !same(m, want) {
		t.Fatalf("P8.1: Decode(%s): %s, %d, want %s, %d", short(b), short(m), err, short(want), wantErr)
	}
	if err == api.OK {
		if again, e := Encode(m); e != api.OK || !bytes.Equal(again, b) {
			t.Fatalf("P8.2: Encode of Decode(%s): %s, %d", short(b), short(again), e)
		}
	}
	return err
}

// Messages to begin with.

func pair(key, value string) api.Pair { return api.Pair{Key: key, Value: value} }

func want(key string, id api.ID) api.Want { return api.Want{Key: key, ID: id} }

func version(key string, id api.ID, value string, keys ...string) api.Version {
	return api.Version{Key: key, ID: id, Value: value, Keys: keys}
}

// number is the text number i of a rising list of texts with n bytes each, n at least 4.
func number(i, n int) string { return fmt.Sprintf("%04d", i) + strings.Repeat("k", n-4) }

// numbers is a rising list of count texts of n bytes each.
func numbers(count, n int) []string {
	var l []string
	for i := range count {
		l = append(l, number(i, n))
	}
	return l
}

func wantsOf(l []string, id api.ID) []api.Want {
	var w []api.Want
	for _, k := range l {
		w = append(w, want(k, id))
	}
	return w
}

func pairsOf(l []string, value string) []api.Pair {
	var p []api.Pair
	for _, k := range l {
		p = append(p, pair(k, value))
	}
	return p
}

// ordinary is messages of every kind that may be.
func ordinary() []api.Message {
	return []api.Message{
		{Kind: kPrepare, Client: 0, Req: 1, ID: 65536, Keys: []string{"a", "b"}, Pairs: []api.Pair{pair("a", "x")}},
		{Kind: kPrepare, Client: 7, Req: 300, ID: 65543, Keys: []string{"", "a", "bb", "c\x00"}, Pairs: []api.Pair{pair("", ""), pair("bb", "yy"), pair("c\x00", "\xff")}},
		{Kind: kCommit, Client: 3, Req: 5, ID: 65539},
		{Kind: kLatest, Client: 1, Req: 1 << 40, Keys: []string{"b", "a"}},
		{Kind: kLatest, Client: 1, Req: 2, Keys: []string{""}},
		{Kind: kByID, Client: 15, Req: 9, Wants: []api.Want{want("b", 65536), want("", 1<<63), want("a", 65537)}},
		{Kind: kPrepared, Client: 2, Req: 6, ID: 65538},
		{Kind: kCommitted, Client: 4, Req: 7, ID: 65540},
		{Kind: kVersions, Client: 5, Req: 8, Versions: []api.Version{version("a", 65536, "x", "a", "b")}},
		{Kind: kVersions, Client: 5, Req: 8, Versions: []api.Version{version("", 65537, "", "")}},
		{Kind: kVersions, Client: 5, Req: 8, Versions: []api.Version{{Key: "z"}}},
		{Kind: kNack, Client: 15, Req: 1<<64 - 1, ID: greatestID},
	}
}

func hex(s string) []byte {
	var b []byte
	for _, w := range strings.Fields(s) {
		var n byte
		if _, err := fmt.Sscanf(w, "%02x", &n); err != nil {
			panic(w)
		}
		b = append(b, n)
	}
	return b
}

// TestBytes: bytes written out by hand, one message of every form.
func TestBytes(t *testing.T) {
	for _, c := range []struct {
		m   api.Message
		hex string
	}{
		{api.Message{Kind: kPrepare, Req: 1, ID: 65536, Keys: []string{"a", "b"}, Pairs: []api.Pair{pair("a", "x")}},
			"00 00 00 2e 01 00 00 00 00 00 00 00 00 01 00 00 00 00 00 01 00 00 00 00 00 02 00 00 00 01 61 00 00 00 01 62 00 00 00 01 00 00 00 01 61 00 00 00 01 78"},
		{api.Message{Kind: kCommit, Client: 3, Req: 5, ID: 65539},
			"00 00 00 12 02 03 00 00 00 00 00 00 00 05 00 00 00 00 00 01 00 03"},
		{api.Message{Kind: kLatest, Client: 15, Req: 0x0102030405060708, Keys: []string{"b", ""}},
			"00 00 00 17 03 0f 01 02 03 04 05 06 07 08 00 00 00 02 00 00 00 01 62 00 00 00 00"},
		{api.Message{Kind: kByID, Client: 1, Req: 2, Wants: []api.Want{want("b", 0x0102030405060708)}},
			"00 00 00 1b 04 01 00 00 00 00 00 00 00 02 00 00 00 01 00 00 00 01 62 01 02 03 04 05 06 07 08"},
		{api.Message{Kind: kPrepared, Client: 3, Req: 5, ID: 65539},
			"00 00 00 12 05 03 00 00 00 00 00 00 00 05 00 00 00 00 00 01 00 03"},
		{api.Message{Kind: kCommitted, Client: 3, Req: 5, ID: 65539},
			"00 00 00 12 06 03 00 00 00 00 00 00 00 05 00 00 00 00 00 01 00 03"},
		{api.Message{Kind: kVersions, Client: 2, Req: 1, Versions: []api.Version{version("a", 65536, "xy", "a", "b")}},
			"00 00 00 2b 07 02 00 00 00 00 00 00 00 01 00 00 00 01 61 00 00 00 00 00 01 00 00 00 00 00 02 78 79 00 00 00 02 00 00 00 01 61 00 00 00 01 62"},
		{api.Message{Kind: kVersions, Client: 2, Req: 1, Versions: []api.Version{{Key: "z"}}},
			"00 00 00 17 07 02 00 00 00 00 00 00 00 01 00 00 00 01 7a 00 00 00 00 00 00 00 00"},
		{api.Message{Kind: kNack, Client: 3, Req: 5, ID: 65539},
			"00 00 00 12 08 03 00 00 00 00 00 00 00 05 00 00 00 00 00 01 00 03"},
	} {
		b := hex(c.hex)
		a := ask(t, c.m)
		if !a.may || a.size != len(b)-4 || a.err != api.OK || !bytes.Equal(a.bytes, b) {
			t.Errorf("P8.1: %s: May %v, Size %d, Encode %s %d, want %s", short(c.m), a.may, a.size, short(a.bytes), a.err, short(b))
		}
		if m, err := decode(t, b); err != api.OK || !same(m, c.m) {
			t.Errorf("P8.1: Decode(%s): %s, %d", short(b), short(m), err)
		}
	}
}

// TestExamples: those of the chapter.
func TestExamples(t *testing.T) {
	commit := api.Message{Kind: kCommit, Client: 3, Req: 5, ID: 65539}
	prepare := api.Message{Kind: kPrepare, Req: 1, ID: 65536, Keys: []string{"a", "b"}, Pairs: []api.Pair{pair("a", "x")}}
	for _, c := range []struct {
		m    api.Message
		size int
	}{
		{commit, 18},
		{prepare, 46},
		{api.Message{Kind: kVersions, Req: 1, Versions: []api.Version{version("a", 65536, "x", "a", "b")}}, 42},
		{api.Message{Kind: kVersions, Req: 1, Versions: []api.Version{{Key: "z"}}}, 23},
	} {
		if n, err := Size(c.m); n != c.size || err != api.OK {
			t.Errorf("P8.1: Size(%s): %d, %d, want %d", short(c.m), n, err, c.size)
		}
	}
	for i, turn := range []func(commit, prepare, answer *api.Message){
		func(c, p, a *api.Message) { c.Client, p.Client, a.Client = 16, 16, 16 },
		func(c, p, a *api.Message) { c.Req, p.Req, a.Req = 0, 0, 0 },
		func(c, p, a *api.Message) { c.ID, p.ID, a.Versions[0].ID = 65535, 65535, 65535 },
		func(c, p, a *api.Message) {
			c.Keys, p.Keys = []string{"a"}, []string{"b", "a"}
			a.Versions = append(a.Versions, a.Versions[0])
		},
		func(c, p, a *api.Message) { c.Kind, p.Pairs[0].Key, a.Kind = 9, "c", 0 },
	} {
		c, p := commit, roomy(prepare)
		a := api.Message{Kind: kVersions, Req: 1, Versions: []api.Version{version("a", 65536, "x", "a", "b")}}
		turn(&c, &p, &a)
		for _, m := range []api.Message{c, p, a} {
			if May(m) {
				t.Errorf("P8.1: row %d: May(%s)", i, short(m))
			}
		}
	}
	if !May(api.Message{Kind: kLatest, Req: 1, Keys: []string{"b", "a"}}) {
		t.Error("P8.1: a MsLatest's keys may be in any order")
	}
	b := hex("00 00 00 12 02 03 00 00 00 00 00 00 00 05 00 00 00 00 00 01 00 03")
	for _, c := range []struct {
		b   []byte
		err api.Errno
	}{
		{b, api.OK}, {b[:21], api.ErrShort}, {append(bytes.Clone(b), 0), api.ErrTrail},
		{put(b, 4, 9), api.ErrBad}, {put(b, 5, 16), api.ErrBad}, {[]byte{0, 16, 0, 1}, api.ErrLong},
	} {
		if _, err := decode(t, c.b); err != c.err {
			t.Errorf("P8.1: Decode(%s): %d, want %d", short(c.b), err, c.err)
		}
	}
}

// put is b with another byte in one place.
func put(b []byte, at int, with byte) []byte {
	b = bytes.Clone(b)
	b[at] = with
	return b
}

// TestKinds: the package's numbers are the chapter's and api's, so that other layers speak of the same kinds.
func TestKinds(t *testing.T) {
	chapter := []int{kPrepare, kCommit, kLatest, kByID, kPrepared, kCommitted, kVersions, kNack}
	given := []int{api.MsPrepare, api.MsCommit, api.MsLatest, api.MsByID, api.MsPrepared, api.MsCommitted, api.MsVersions, api.MsNack}
	own := []int{prepare, commit, latest, byID, prepared, committed, versions, nack}
	if !slices.Equal(own, chapter) || !slices.Equal(given, chapter) {
		t.Errorf("P8.1: the kinds are %v, api's %v", own, given)
	}
}

// TestTop: every Kind, Client and Req with the fields of every ordinary message. Kinds and clients that are
// the same as others in their lowest byte are told apart.
func TestTop(t *testing.T) {
	kinds := []int{-1 << 63, -255, -8, -1, 0, 1, 2, 3, 4, 5, 6, 7, 8, 9, 10, 255, 256, 257, 258, 259, 260, 263, 1<<32 + 2, 1<<63 - 1}
	clients := []int{-1 << 63, -256, -16, -1, 0, 1, 14, 15, 16, 17, 255, 256, 259, 1 << 32, 1<<63 - 1}
	for _, m := range ordinary() {
		for _, kind := range kinds {
			for _, client := range clients {
				for _, req := range []uint64{0, 1, 2, 255, 256, 1 << 32, 1<<64 - 1} {
					m.Kind, m.Client, m.Req = kind, client, req
					check(t, m)
				}
			}
		}
	}
}

// choices are what each field may hold in TestFields: what fits some kind, and what fits none.
type choices struct {
	ids      []api.ID
	keys     [][]string
	pairs    [][]api.Pair
	wants    [][]api.Want
	versions [][]api.Version
}

func someFields() choices {
	return choices{
		ids:  []api.ID{0, 1, 65535, 65536, 65537, greatestID},
		keys: [][]string{nil, {""}, {"a"}, {"a", "b"}, {"b", "a"}, {"a", "a"}, {"", "a", "b", "c"}, {"a", "b", "a"}},
		pairs: [][]api.Pair{nil, {pair("a", "x")}, {pair("", "")}, {pair("b", "")}, {pair("c", "x")}, {pair("a", ""), pair("b", "y")},
			{pair("b", "y"), pair("a", "")}, {pair("a", "x"), pair("a", "x")}, {pair("a", "x"), pair("a", "y")}, {pair("", "x"), pair("a", "x"), pair("c", "")}},
		wants: [][]api.Want{nil, {want("a", 65536)}, {want("a", 0)}, {want("b", 65535)}, {want("b", 65536), want("a", 65536)},
			{want("a", 65536), want("a", 65537)}, {want("", greatestID), want("a", 65536)}, {want("a", 65536), want("b", 1)}},
		versions: [][]api.Version{nil, {{Key: "a"}}, {version("a", 65536, "x", "a")}, {version("a", 65536, "x", "b")},
			{version("a", 65536, "x", "b", "a")}, {version("b", greatestID, "", "a", "b")}, {version("a", 65535, "x", "a")}, {version("a", 1, "", "a")},
			{version("a", 0, "x")}, {version("a", 0, "", "a")}, {version("a", 65536, "x")}, {version("", 65536, "", "")}, {version("a", 65536, "", "a", "a")},
			{{Key: "a"}, {Key: "b"}}, {version("a", 65536, "x", "a"), {Key: "b"}}},
	}
}

// TestFields: every kind with the fields of its own, and with those that it doesn't have. Two that may be
// and are not equal have other bytes.
func TestFields(t *testing.T) {
	c := someFields()
	seen := map[string]api.Message{}
	count := 0
	look := func(m api.Message) {
		check(t, m)
		count++
		if !May(m) {
			return
		}
		b, _ := Encode(m)
		if other, is := seen[string(b)]; is && !same(m, other) {
			t.Fatalf("P8.2: %s and %s have the same bytes", short(m), short(other))
		}
		seen[string(b)] = m
	}
	for kind := 0; kind <= 9; kind++ {
		for _, id := range c.ids {
			for _, l := range c.keys {
				for _, p := range c.pairs {
					look(api.Message{Kind: kind, Client: 1, Req: 2, ID: id, Keys: l, Pairs: p})
				}
				for _, w := range c.wants {
					look(api.Message{Kind: kind, Client: 1, Req: 2, ID: id, Keys: l, Wants: w})
				}
				for _, v := range c.versions {
					look(api.Message{Kind: kind, Client: 1, Req: 2, ID: id, Keys: l, Versions: v})
				}
			}
			for _, p := range c.pairs {
				for _, w := range c.wants {
					for _, v := range c.versions {
						look(api.Message{Kind: kind, Client: 1, Req: 2, ID: id, Pairs: p, Wants: w, Versions: v})
					}
				}
			}
		}
	}
	for _, m := range ordinary() {
		for _, client := range []int{0, 1, 15} {
			for _, req := range []uint64{1, 2, 256} {
				m.Client, m.Req = client, req
				look(m)
			}
		}
	}
	if len(seen) < 100 || count < 10000 {
		t.Fatalf("only %d messages, %d forms of those that may be", count, len(seen))
	}
}

// TestOneTooMany: each ordinary message with one field that its kind doesn't have, and without one that it has.
func TestOneTooMany(t *testing.T) {
	turns := map[string]func(m *api.Message){
		"ID":       func(m *api.Message) { m.ID ^= 65536 },
		"no Keys":  func(m *api.Message) { m.Keys = nil },
		"Keys":     func(m *api.Message) { m.Keys = append(slices.Clone(m.Keys), "") },
		"no Pairs": func(m *api.Message) { m.Pairs = []api.Pair{} },
		"Pairs":    func(m *api.Message) { m.Pairs = append(slices.Clone(m.Pairs), pair("", "")) },
		"no Wants": func(m *api.Message) { m.Wants = nil },
		"Wants":    func(m *api.Message) { m.Wants = append(slices.Clone(m.Wants), want("c", 65536)) },
		"no Vers":  func(m *api.Message) { m.Versions = []api.Version{} },
		"Vers":     func(m *api.Message) { m.Versions = append(slices.Clone(m.Versions), api.Version{}) },
	}
	for _, m := range ordinary() {
		check(t, m)
		for _, turn := range turns {
			other := m
			turn(&other)
			check(t, other)
		}
	}
}

// TestLimits: keys and values of the greatest length and of one more, lists of the greatest length and of one more.
func TestLimits(t *testing.T) {
	key, keyAbove := strings.Repeat("k", mostBytes), strings.Repeat("k", mostBytes+1)
	many, tooMany := numbers(mostKeys, 6), numbers(mostKeys+1, 6)
	back := slices.Clone(many)
	slices.Reverse(back)
	twice := append(slices.Clone(many[:mostKeys-1]), many[mostKeys-2])
	for _, c := range []struct {
		m   api.Message
		may bool
	}{
		{api.Message{Kind: kLatest, Keys: []string{key}}, true},
		{api.Message{Kind: kLatest, Keys: []string{keyAbove}}, false},
		{api.Message{Kind: kLatest, Keys: []string{"a", keyAbove, "b"}}, false},
		{api.Message{Kind: kLatest, Keys: many}, true},
		{api.Message{Kind: kLatest, Keys: back}, true},
		{api.Message{Kind: kLatest, Keys: tooMany}, false},
		{api.Message{Kind: kLatest, Keys: twice}, false},
		{api.Message{Kind: kByID, Wants: wantsOf([]string{key}, 65536)}, true},
		{api.Message{Kind: kByID, Wants: wantsOf([]string{keyAbove}, 65536)}, false},
		{api.Message{Kind: kByID, Wants: wantsOf(many, 65536)}, true},
		{api.Message{Kind: kByID, Wants: wantsOf(back, 65536)}, true},
		{api.Message{Kind: kByID, Wants: wantsOf(tooMany, 65536)}, false},
		{api.Message{Kind: kByID, Wants: wantsOf(twice, 65536)}, false},
		{api.Message{Kind: kByID, Wants: append(wantsOf(many[1:], 65536), want("z", 65535))}, false},
		{api.Message{Kind: kPrepare, ID: 65536, Keys: []string{key}, Pairs: []api.Pair{pair(key, key)}}, true},
		{api.Message{Kind: kPrepare, ID: 65536, Keys: []string{"a", keyAbove}, Pairs: []api.Pair{pair("a", "")}}, false},
		{api.Message{Kind: kPrepare, ID: 65536, Keys: []string{keyAbove}, Pairs: []api.Pair{pair(keyAbove, "")}}, false},
		{api.Message{Kind: kPrepare, ID: 65536, Keys: []string{"a", "b"}, Pairs: []api.Pair{pair("a", ""), pair("b", keyAbove)}}, false},
		{api.Message{Kind: kPrepare, ID: 65536, Keys: many, Pairs: pairsOf(many, "v")}, true},
		{api.Message{Kind: kPrepare, ID: 65536, Keys: many, Pairs: pairsOf(many[mostKeys-1:], "v")}, true},
		{api.Message{Kind: kPrepare, ID: 65536, Keys: many[1:], Pairs: pairsOf(many, "v")}, false},
		{api.Message{Kind: kPrepare, ID: 65536, Keys: back, Pairs: pairsOf(back, "v")}, false},
		{api.Message{Kind: kPrepare, ID: 65536, Keys: many, Pairs: pairsOf(back, "v")}, false},
		{api.Message{Kind: kPrepare, ID: 65536, Keys: twice, Pairs: pairsOf(many[:1], "v")}, false},
		{api.Message{Kind: kPrepare, ID: 65536, Keys: tooMany, Pairs: pairsOf(many, "v")}, false},
		{api.Message{Kind: kPrepare, ID: 65536, Keys: tooMany, Pairs: pairsOf(tooMany, "v")}, false},
		{api.Message{Kind: kPrepare, ID: 65536, Keys: many, Pairs: pairsOf(tooMany, "v")}, false},
		{api.Message{Kind: kVersions, Versions: []api.Version{{Key: key}}}, true},
		{api.Message{Kind: kVersions, Versions: []api.Version{{Key: keyAbove}}}, false},
		{api.Message{Kind: kVersions, Versions: []api.Version{version(key, 65536, key, key)}}, true},
		{api.Message{Kind: kVersions, Versions: []api.Version{version(keyAbove, 65536, "", keyAbove)}}, false},
		{api.Message{Kind: kVersions, Versions: []api.Version{version("a", 65536, "", "a", keyAbove)}}, false},
		{api.Message{Kind: kVersions, Versions: []api.Version{version("a", 65536, keyAbove, "a")}}, false},
		{api.Message{Kind: kVersions, Versions: []api.Version{version(many[1023], 65536, key, many...)}}, true},
		{api.Message{Kind: kVersions, Versions: []api.Version{version(many[0], 65536, "", back...)}}, false},
		{api.Message{Kind: kVersions, Versions: []api.Version{version(many[0], 65536, "", tooMany...)}}, false},
		{api.Message{Kind: kVersions, Versions: []api.Version{version(tooMany[1024], 65536, "", many...)}}, false},
	} {
		c.m.Req = 1
		check(t, c.m)
		if May(c.m) != c.may {
			t.Errorf("P8.1: May(%s): %v", short(c.m), !c.may)
		}
		if body := modelBody(c.m); len(body) <= longest {
			checkBytes(t, framed(body))
		}
	}
}

// ofSize is a message of one of the kinds that may be as long, whose body has just size bytes.
func ofSize(t *testing.T, kind, size int) api.Message {
	t.Helper()
	m := api.Message{Kind: kind, Client: 9, Req: 77}
	l := numbers(16, 60000)
	top := map[int]int{kPrepare: 10 + 8 + 4 + 4 + 4 + len(l[0]) + 4, kLatest: 10 + 4, kByID: 10 + 4, kVersions: 10 + 4 + len(l[0]) + 8 + 4 + 4}[kind]
	each := 4
	if kind == kByID {
		each = 12
	}
	for i := range l {
		top += each + len(l[i])
	}
	// What is missing stands in the last keys.
	for i := len(l) - 1; top < size; i-- {
		more := min(size-top, mostBytes-60000)
		l[i] += strings.Repeat("+", more)
		top += more
	}
	switch kind {
	case kPrepare:
		m.ID, m.Keys, m.Pairs = 65536, l, []api.Pair{pair(l[0], "")}
	case kLatest:
		m.Keys = l
	case kByID:
		m.Wants = wantsOf(l, 65536)
	case kVersions:
		m.Versions = []api.Version{version(l[0], 65536, "", l...)}
	}
	if n := len(modelBody(m)); n != size {
		t.Fatalf("the test's message has %d bytes, not %d", n, size)
	}
	return m
}

// sizeable are the kinds whose bodies may pass a frame.
var sizeable = []int{kPrepare, kLatest, kByID, kVersions}

// TestLongest: bodies of MaxFrame bytes, of one less and of one more.
func TestLongest(t *testing.T) {
	for _, kind := range sizeable {
		for _, size := range []int{longest - 1, longest, longest + 1, longest + 2} {
			m := ofSize(t, kind, size)
			check(t, m)
			a := ask(t, m)
			if !a.may || a.size != size || a.sizeErr != api.OK {
				t.Errorf("P8.1: kind %d of %d bytes: May %v, Size %d, %d", kind, size, a.may, a.size, a.sizeErr)
			}
			if (a.err == api.OK) != (size <= longest) || len(a.bytes) != 0 && len(a.bytes) != size+4 {
				t.Errorf("P8.1: kind %d of %d bytes: Encode %d bytes, %d", kind, size, len(a.bytes), a.err)
			}
			checkBytes(t, framed(modelBody(m)))
		}
	}
}

// TestGreatest: the longest messages that may be have a size too.
func TestGreatest(t *testing.T) {
	l := numbers(mostKeys, mostBytes)
	value := strings.Repeat("v", mostBytes)
	for _, c := range []struct {
		m    api.Message
		size int
	}{
		{api.Message{Kind: kPrepare, Req: 1, ID: 65536, Keys: l, Pairs: pairsOf(l, value)}, 10 + 8 + 4 + 1024*65539 + 4 + 1024*2*65539},
		{api.Message{Kind: kLatest, Req: 1, Keys: l}, 10 + 4 + 1024*65539},
		{api.Message{Kind: kByID, Req: 1, Wants: wantsOf(l, 65536)}, 10 + 4 + 1024*(65539+8)},
		{api.Message{Kind: kVersions, Req: 1, Versions: []api.Version{version(l[9], 65536, value, l...)}}, 10 + 65539 + 8 + 65539 + 4 + 1024*65539},
	} {
		a := ask(t, c.m)
		if !a.may || a.size != c.size || a.sizeErr != api.OK || len(a.bytes) != 0 || a.err != api.ErrLong {
			t.Errorf("P8.1: kind %d: May %v, Size %d %d, Encode %d bytes %d, want size %d", c.m.Kind, a.may, a.size, a.sizeErr, len(a.bytes), a.err, c.size)
		}
	}
}

// TestNilAndEmpty: a list without elements is no list.
func TestNilAndEmpty(t *testing.T) {
	for _, m := range ordinary() {
		empty := m
		if len(m.Keys) == 0 {
			empty.Keys = []string{}
		}
		if len(m.Pairs) == 0 {
			empty.Pairs = []api.Pair{}
		}
		if len(m.Wants) == 0 {
			empty.Wants = []api.Want{}
		}
		if len(m.Versions) == 0 {
			empty.Versions = []api.Version{}
		} else if v := m.Versions[0]; len(v.Keys) == 0 {
			v.Keys = []string{}
			empty.Versions = []api.Version{v}
		}
		a, errA := Encode(m)
		b, errB := Encode(empty)
		if errA != api.OK || errB != api.OK || !bytes.Equal(a, b) {
			t.Errorf("P8.1: %s with nil and empty lists: %s %d, %s %d", short(m), short(a), errA, short(b), errB)
		}
	}
}

// TestHeads: what Decode says of the four bytes of length and how many stand behind them.
func TestHeads(t *testing.T) {
	for n := range 4 {
		for _, c := range []byte{0, 1, 16, 255} {
			if err := checkBytes(t, bytes.Repeat([]byte{c}, n)); err != api.ErrShort {
				t.Fatalf("P8.1: Decode of %d bytes: %d", n, err)
			}
		}
	}
	// Behind a length above MaxFrame it doesn't matter what stands.
	for _, size := range []uint32{longest + 1, longest + 2, 1 << 24, 1 << 31, 1<<32 - 1} {
		for _, behind := range []int{0, 1, 18, longest - 1, longest, longest + 1, longest + 2} {
			b := append(binary.BigEndian.AppendUint32(nil, size), make([]byte, behind)...)
			if err := checkBytes(t, b); err != api.ErrLong {
				t.Fatalf("P8.1: Decode, length %d, %d bytes behind it: %d", size, behind, err)
			}
		}
	}
	for _, size := range []int{0, 1, 17, 18, 19, 255, 256, 65536, longest - 1, longest} {
		for _, off := range []int{-19, -2, -1, 0, 1, 2, 19, 70000} {
			if size+off < 0 {
				continue
			}
			want := api.ErrBad
			if off < 0 {
				want = api.ErrShort
			}
			if off > 0 {
				want = api.ErrTrail
			}
			if err := checkBytes(t, append(be32(size), make([]byte, size+off)...)); err != want {
				t.Fatalf("P8.1: Decode, length %d, %d bytes behind it: %d, want %d", size, size+off, err, want)
			}
		}
	}
}

// TestCutOff: every beginning of a frame, and bytes of all sorts behind it.
func TestCutOff(t *testing.T) {
	for _, m := range ordinary() {
		b, _ := Encode(m)
		for n := range b {
			if x, err := decode(t, b[:n]); err != api.ErrShort || !same(x, api.Message{}) {
				t.Fatalf("P8.4: the first %d bytes of %s: %s, %d", n, short(b), short(x), err)
			}
		}
		for _, tail := range [][]byte{{0}, {255}, {0, 0, 0, 0}, {255, 255, 255, 255}, b, b[:5], make([]byte, 100000)} {
			if x, err := decode(t, append(bytes.Clone(b), tail...)); err != api.ErrTrail || !same(x, api.Message{}) {
				t.Fatalf("P8.4: %s and %s behind it: %s, %d", short(b), short(tail), short(x), err)
			}
		}
	}
	for _, kind := range sizeable {
		b, _ := Encode(ofSize(t, kind, longest))
		for _, n := range []int{0, 3, 4, 5, 1000, 65536, longest, longest + 3} {
			if _, err := decode(t, b[:n]); err != api.ErrShort {
				t.Fatalf("P8.4: the first %d bytes of the longest of kind %d: %d", n, kind, err)
			}
		}
		if _, err := decode(t, append(b, 7)); err != api.ErrTrail {
			t.Fatalf("P8.4: the longest of kind %d and a byte behind it: %d", kind, err)
		}
	}
}

// TestOtherBytes: every byte in every place of frames.
func TestOtherBytes(t *testing.T) {
	for _, m := range ordinary() {
		b, _ := Encode(m)
		for at := range b {
			for c := range 256 {
				checkBytes(t, put(b, at, byte(c)))
			}
		}
	}
}

// TestBodies: bodies cut, with a byte more, with a byte left out or put in, each within a frame of its length.
func TestBodies(t *testing.T) {
	for _, m := range ordinary() {
		body := modelBody(m)
		for n := range body {
			if err := checkBytes(t, framed(body[:n])); err != api.ErrBad {
				t.Fatalf("P8.1: the first %d bytes of the body of %s: %d", n, short(m), err)
			}
			checkBytes(t, framed(body[n:]))
			checkBytes(t, framed(slices.Delete(slices.Clone(body), n, n+1)))
			for _, c := range []byte{0, 1, 97, 255} {
				checkBytes(t, framed(slices.Insert(slices.Clone(body), n, c)))
			}
		}
		for _, tail := range [][]byte{{0}, {1}, {255}, {0, 0, 0, 0}, make([]byte, 8), make([]byte, 1000)} {
			if err := checkBytes(t, framed(append(slices.Clone(body), tail...))); err != api.ErrBad {
				t.Fatalf("P8.1: the body of %s and %d bytes: %d", short(m), len(tail), err)
			}
		}
	}
}

// TestWrongMessages: bytes that are laid as a body is, of messages that may not be.
func TestWrongMessages(t *testing.T) {
	c := someFields()
	look := func(m api.Message) {
		want := api.ErrBad
		if modelMay(m) {
			want = api.OK
		}
		if err := checkBytes(t, framed(modelBody(m))); err != want {
			t.Fatalf("P8.1: Decode of the bytes of %s: %d, want %d", short(m), err, want)
		}
	}
	for _, req := range []uint64{0, 1} {
		for client := range 256 {
			for _, m := range ordinary() {
				m.Client, m.Req = client, req
				look(m)
			}
		}
		for _, id := range c.ids {
			for _, l := range c.keys {
				for _, p := range c.pairs {
					look(api.Message{Kind: kPrepare, Req: req, ID: id, Keys: l, Pairs: p})
				}
			}
			for _, kind := range []int{kCommit, kPrepared, kCommitted, kNack} {
				look(api.Message{Kind: kind, Req: req, ID: id})
			}
		}
		for _, l := range c.keys {
			look(api.Message{Kind: kLatest, Req: req, Keys: l})
		}
		for _, w := range c.wants {
			look(api.Message{Kind: kByID, Req: req, Wants: w})
		}
		for _, v := range c.versions {
			// A bottom's body has neither Value nor Keys, and a body one version.
			if len(v) == 1 && (v[0].ID != 0 || v[0].Value == "" && len(v[0].Keys) == 0) {
				look(api.Message{Kind: kVersions, Req: req, Versions: v})
			}
		}
	}
	// A bottom with a value and keys, two versions, none.
	top := append([]byte{kVersions, 0}, be64(1)...)
	bottom := append(text("a"), be64(0)...)
	for _, b := range [][]byte{slices.Concat(top, bottom, text("")), slices.Concat(top, bottom, text(""), texts(nil)),
		slices.Concat(top, bottom, text("x"), texts([]string{"a"})), slices.Concat(top, bottom, bottom), top} {
		if err := checkBytes(t, framed(b)); err != api.ErrBad {
			t.Fatalf("P8.1: Decode(%s): %d", short(framed(b)), err)
		}
	}
	if err := checkBytes(t, framed(slices.Concat(top, bottom))); err != api.OK {
		t.Fatalf("P8.1: Decode of a bottom: %d", err)
	}
}

// TestCounts: counts and lengths that claim what isn't there, up to the greatest.
func TestCounts(t *testing.T) {
	for _, n := range []int{0, 1, 2, 3, 4, 255, 1023, 1024, 1025, 65535, 65536, 1 << 20, 1 << 31, 1<<32 - 1} {
		for _, kind := range sizeable {
			for behind := range 60 {
				b := append([]byte{byte(kind), 0}, be64(1)...)
				if kind == kPrepare {
					b = append(b, be64(65536)...)
				}
				b = append(append(b, be32(n)...), make([]byte, behind)...)
				checkBytes(t, framed(b))
				if kind == kPrepare {
					b = append(append(b[:18], texts([]string{"a"})...), be32(n)...)
					checkBytes(t, framed(append(b, make([]byte, behind)...)))
				}
			}
		}
	}
}

// Messages by chance.

// chance gives messages from a source with a fixed seed.
type chance struct{ *rand.Rand }

func (r chance) text() string {
	b := make([]byte, r.Intn(4))
	for i := range b {
		b[i] = "\x00ab\xff"[r.Intn(4)]
	}
	return string(b)
}

// some is texts: most often rising, sometimes as they come.
func (r chance) some() []string {
	var l []string
	for range r.Intn(5) {
		l = append(l, r.text())
	}
	if r.Intn(8) > 0 {
		slices.Sort(l)
		l = slices.Compact(l)
	}
	return l
}

func (r chance) id() api.ID {
	return []api.ID{0, 65535, 65536, api.ID(r.Intn(1 << 20)), api.ID(r.Uint64()), 1 << 40, 1 << 41, 1 << 42}[r.Intn(8)]
}

// of is the list's element that chance picks, or a text by chance.
func (r chance) of(l []string) string {
	if len(l) == 0 || r.Intn(12) == 0 {
		return r.text()
	}
	return l[r.Intn(len(l))]
}

func (r chance) version() api.Version {
	l := r.some()
	if r.Intn(3) == 0 {
		return api.Version{Key: r.text()}
	}
	return api.Version{Key: r.of(l), ID: r.id(), Value: r.text(), Keys: l}
}

// message is one that may be more often than not.
func (r chance) message() api.Message {
	m := api.Message{Kind: 1 + r.Intn(8), Client: r.Intn(16), Req: 1 + uint64(r.Intn(1000))}
	switch m.Kind {
	case kPrepare:
		m.ID, m.Keys = r.id(), r.some()
		for _, k := range m.Keys {
			if r.Intn(2) == 0 {
				m.Pairs = append(m.Pairs, pair(r.of([]string{k}), r.text()))
			}
		}
	case kLatest:
		m.Keys = r.some()
		r.Shuffle(len(m.Keys), func(i, j int) { m.Keys[i], m.Keys[j] = m.Keys[j], m.Keys[i] })
	case kByID:
		for _, k := range r.some() {
			m.Wants = append(m.Wants, want(k, r.id()))
		}
	case kVersions:
		m.Versions = []api.Version{r.version()}
	default:
		m.ID = r.id()
	}
	switch r.Intn(20) {
	case 0:
		m.Keys = r.some()
	case 1:
		m.Versions = append(m.Versions, r.version())
	case 2:
		m.Kind = r.Intn(10)
	case 3:
		m.ID = r.id()
	}
	return m
}

// TestByChance: messages, and their bytes with some of them changed, left out, doubled.
func TestByChance(t *testing.T) {
	r := chance{rand.New(rand.NewSource(8))}
	may := 0
	for range 60000 {
		m := r.message()
		check(t, m)
		if May(m) {
			may++
		}
		body := modelBody(m)
		for range 1 + r.Intn(2) {
			at := r.Intn(len(body))
			switch r.Intn(4) {
			case 0:
				body[at] = byte(r.Intn(256))
			case 1:
				body[at] ^= 1 << r.Intn(8)
			case 2:
				body = slices.Delete(body, at, min(at+1+r.Intn(5), len(body)))
			case 3:
				body = slices.Insert(body, at, body[at:min(at+1+r.Intn(9), len(body))]...)
			}
			if len(body) == 0 {
				break
			}
		}
		checkBytes(t, framed(body))
	}
	if may < 20000 {
		t.Fatalf("only %d of the messages may be", may)
	}
}

// TestBytesByChance: bodies of bytes that mean something in many places.
func TestBytesByChance(t *testing.T) {
	r := rand.New(rand.NewSource(88))
	taken := 0
	for range 300000 {
		b := []byte{byte(r.Intn(9)), byte(r.Intn(16)), 0, 0, 0, 0, 0, 0, 0, 1}
		for range r.Intn(9) {
			switch r.Intn(5) {
			case 0:
				b = append(b, 0, 0, 0, byte(r.Intn(3)))
			case 1:
				b = append(b, 0, 0, 0, 1, byte(97+r.Intn(3)))
			case 2:
				b = append(b, 0, 0, 0, 0, 0, byte(r.Intn(2)), 0, 0)
			case 3:
				b = append(b, 0, 0, 0, byte(r.Intn(4)))
			case 4:
				b = append(b, byte(97+r.Intn(3)))
			}
		}
		if checkBytes(t, framed(b)) == api.OK {
			taken++
		}
	}
	if taken < 3000 {
		t.Fatalf("only %d were taken", taken)
	}
}

// TestAnswersFit: of a prepare's versions and of a first question's second, how long they are.
func TestAnswersFit(t *testing.T) {
	r := chance{rand.New(rand.NewSource(83))}
	for range 30000 {
		m := r.message()
		if !May(m) {
			continue
		}
		switch m.Kind {
		case kPrepare:
			answersFit(t, m)
		case kLatest:
			byIDFits(t, m)
		}
	}
	const body, question = longest - 64, longest - 16384 // MaxBody, MaxAsk
	l := numbers(16, mostBytes-40)
	value := strings.Repeat("v", mostBytes)
	for _, m := range []api.Message{
		ofSize(t, kPrepare, body),
		ofSize(t, kPrepare, longest),
		{Kind: kPrepare, Client: 15, Req: 1, ID: greatestID, Keys: l[:1], Pairs: []api.Pair{pair(l[0], value)}},
		{Kind: kPrepare, Client: 15, Req: 1, ID: greatestID, Keys: l[:8], Pairs: []api.Pair{pair(l[3], value), pair(l[7], value)}},
		{Kind: kPrepare, Client: 15, Req: 1, ID: greatestID, Keys: []string{""}, Pairs: []api.Pair{pair("", "")}},
	} {
		answersFit(t, m)
	}
	// 1024 keys in MaxAsk bytes: the question by IDs is as much longer as it can be.
	most := numbers(mostKeys, (question-14)/mostKeys-4)
	most[mostKeys-1] += strings.Repeat("+", question-14-mostKeys*(4+len(most[0])))
	for _, m := range []api.Message{{Kind: kLatest, Req: 1, Keys: most}, ofSize(t, kLatest, question)} {
		if n, err := Size(m); n != question || err != api.OK {
			t.Fatalf("the test's question has %d bytes, %d", n, err)
		}
		byIDFits(t, m)
	}
}

// answersFit holds the answers that tell a prepare's versions against it.
func answersFit(t *testing.T, m api.Message) {
	t.Helper()
	size, err := Size(m)
	if err != api.OK {
		t.Fatalf("P8.3: Size(%s): %d", short(m), err)
	}
	for _, p := range m.Pairs {
		for _, client := range []int{0, 15} {
			for _, req := range []uint64{1, 1<<64 - 1} {
				a := api.Message{Kind: kVersions, Client: client, Req: req, Versions: []api.Version{{Key: p.Key, ID: m.ID, Value: p.Value, Keys: m.Keys}}}
				n, err := Size(a)
				if err != api.OK || n > size {
					t.Fatalf("P8.3: of %s, %d bytes, the version of %s: %d bytes, %d", short(m), size, short(p.Key), n, err)
				}
				if b, err := Encode(a); err != api.OK || len(b) != n+4 {
					t.Fatalf("P8.3: of %s the version of %s: Encode %d bytes, %d", short(m), short(p.Key), len(b), err)
				}
			}
		}
	}
}

// byIDFits holds the question by IDs against the first question for its keys.
func byIDFits(t *testing.T, m api.Message) {
	t.Helper()
	size, err := Size(m)
	if err != api.OK {
		t.Fatalf("P8.3: Size(%s): %d", short(m), err)
	}
	a := api.Message{Kind: kByID, Client: 15, Req: 1<<64 - 1, Wants: wantsOf(m.Keys, greatestID)}
	n, err := Size(a)
	if err != api.OK || n != size+8*len(m.Keys) {
		t.Fatalf("P8.3: %s has %d bytes, the question by IDs %d, %d", short(m), size, n, err)
	}
	if b, err := Encode(a); err != api.OK || len(b) != n+4 {
		t.Fatalf("P8.3: the question by IDs of %s: Encode %d bytes, %d", short(m), len(b), err)
	}
}

// TestNewMemory: what is told is written over, and told again as it was; two lists of an answer are apart.
func TestNewMemory(t *testing.T) {
	list := append(ordinary(), ofSize(t, kPrepare, 1<<20-64), ofSize(t, kVersions, 1<<20-64))
	for _, m := range list {
		want := framed(modelBody(m))
		one, _ := Encode(m)
		two, _ := Encode(m)
		fill(one, '!')
		if !bytes.Equal(two, want) {
			t.Fatalf("P8.5: two calls of Encode(%s) share memory", short(m))
		}
		fill(two, '?')
		if three, _ := Encode(m); !bytes.Equal(three, want) {
			t.Fatalf("P8.5: Encode(%s) tells what was written over", short(m))
		}
		x, _ := Decode(want)
		y, _ := Decode(want)
		if !listsApart(x) {
			t.Fatalf("P8.5: two lists of Decode(%s) share memory", short(want))
		}
		spoil(x)
		if !same(y, m) {
			t.Fatalf("P8.5: two calls of Decode(%s) share memory", short(want))
		}
		spoil(y)
		if z, err := Decode(want); err != api.OK || !same(z, m) || !bytes.Equal(want, framed(modelBody(m))) {
			t.Fatalf("P8.5: Decode(%s) tells what was written over", short(want))
		}
	}
}

// listsApart fills every list of texts of a message with a text of its own, and tells whether all stay.
func listsApart(m api.Message) bool {
	lists := [][]string{m.Keys}
	for _, v := range m.Versions {
		lists = append(lists, v.Keys)
	}
	for i, l := range lists {
		fill(l, number(i, 4))
	}
	for i, l := range lists {
		for _, s := range l[:cap(l)] {
			if s != number(i, 4) {
				return false
			}
		}
	}
	return true
}

// TestNothingIsKept: refused calls and others between don't show in what is told later.
func TestNothingIsKept(t *testing.T) {
	r := chance{rand.New(rand.NewSource(85))}
	list := ordinary()
	var frames [][]byte
	for _, m := range list {
		frames = append(frames, framed(modelBody(m)))
	}
	for range 3000 {
		i := r.Intn(len(list))
		bad := r.message()
		bad.Client = 16
		Encode(bad)
		Decode(frames[r.Intn(len(frames))][:3+r.Intn(10)])
		b, err := Encode(list[i])
		if err != api.OK || !bytes.Equal(b, frames[i]) {
			t.Fatalf("P8.5: Encode(%s) behind other calls: %s, %d", short(list[i]), short(b), err)
		}
		if m, err := Decode(frames[i]); err != api.OK || !same(m, list[i]) {
			t.Fatalf("P8.5: Decode(%s) behind other calls: %s, %d", short(frames[i]), short(m), err)
		}
	}
}
