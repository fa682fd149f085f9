package store

import (
	"fmt"
	"math"
	"math/rand"
	"runtime"
	"slices"
	"strings"
	"testing"

	"rampart/api"
)

// The chapter's numbers, not api's.
const (
	one      = api.ID(65536)  // client 0's first write
	two      = api.ID(65537)  // client 1's first
	three    = api.ID(131072) // client 0's second
	lastID   = api.ID(1<<64 - 1)
	maxSet   = 1024
	maxBytes = 65535
	maxTick  = int64(1) << 40

	errArg  = api.Errno(1)
	errNone = api.Errno(110)
)

// What calls are given.

func list(keys ...string) []string { return keys }

// says is pairs: a key, its value, a key, its value.
func says(l ...string) []api.Pair {
	var out []api.Pair
	for i := 0; i < len(l); i += 2 {
		out = append(out, api.Pair{Key: l[i], Value: l[i+1]})
	}
	return out
}

func long(n int) string { return strings.Repeat("k", n) }

// numbers is n keys, rising.
func numbers(n int) []string {
	var out []string
	for i := range n {
		out = append(out, fmt.Sprintf("%07d", i))
	}
	return out
}

func pairsOf(keys []string, value string) []api.Pair {
	var out []api.Pair
	for _, key := range keys {
		out = append(out, api.Pair{Key: key, Value: value})
	}
	return out
}

func versionOf(key string, id api.ID, value string, keys ...string) api.Version {
	return api.Version{Key: key, ID: id, Value: value, Keys: keys}
}

func kept(stamp int64, key string, id api.ID, value string, keys ...string) api.Kept {
	return api.Kept{Version: versionOf(key, id, value, keys...), Stamp: stamp}
}

// Calls and answers.

const (
	doPut = iota
	doCommit
	doHas
	doCommitted
	doLast
	doLatest
	doByID
	doKept
	doLasts
	doDrop
)

type call struct {
	kind  int
	key   string
	id    api.ID
	pairs []api.Pair
	keys  []string
	now   int64
}

type answer struct {
	yes     bool
	n       int
	id      api.ID
	version api.Version
	kept    []api.Kept
	lasts   []api.Last
	err     api.Errno
}

func (c call) String() string {
	names := list("Put", "Commit", "Has", "Committed", "Last", "Latest", "ByID", "Kept", "Lasts", "Drop")
	return fmt.Sprintf("%s(key %.20q, id %d, pairs %s, keys %s, now %d)", names[c.kind], c.key, c.id, short(c.pairs), short(c.keys), c.now)
}

func (c call) changes() bool { return c.kind == doPut || c.kind == doCommit || c.kind == doDrop }

func putOf(id api.ID, pairs []api.Pair, keys []string, now int64) call {
	return call{kind: doPut, id: id, pairs: pairs, keys: keys, now: now}
}

func commitOf(id api.ID, now int64) call { return call{kind: doCommit, id: id, now: now} }

func dropOf(key string, id api.ID) call { return call{kind: doDrop, key: key, id: id} }

func byIDOf(key string, id api.ID) call { return call{kind: doByID, key: key, id: id} }

// short tells a thing, but not all of a long one.
func short(x any) string {
	s := fmt.Sprintf("%+v", x)
	if len(s) > 300 {
		return s[:200] + " and on, " + fmt.Sprint(len(s)) + " signs in all"
	}
	return s
}

// same of versions and answers: field by field; nil and empty lists are the same.

func sameVersion(a, b api.Version) bool {
	return a.Key == b.Key && a.ID == b.ID && a.Value == b.Value && slices.Equal(a.Keys, b.Keys)
}

func sameKept(a, b api.Kept) bool { return a.Stamp == b.Stamp && sameVersion(a.Version, b.Version) }

func sameAllKept(a, b []api.Kept) bool { return slices.EqualFunc(a, b, sameKept) }

func same(a, b answer) bool {
	return a.yes == b.yes && a.n == b.n && a.id == b.id && a.err == b.err && sameVersion(a.version, b.version) &&
		sameAllKept(a.kept, b.kept) && slices.Equal(a.lasts, b.lasts)
}

// Memory: lists with room behind them, in which marks stand, and lists written over.

const (
	spare  = 3
	signOf = "\xA5sign"
)

func with[T any](l []T, sign T) []T {
	out := append(make([]T, 0, len(l)+spare), l...)
	for range spare {
		out = append(out, sign)
	}
	return out[:len(l)]
}

func holds[T any](l, was []T, sign T, same func(a, b T) bool) bool {
	for _, x := range l[len(l) : len(l)+spare] {
		if !same(x, sign) {
			return false
		}
	}
	return slices.EqualFunc(l, was, same)
}

func equal[T comparable](a, b T) bool { return a == b }

// fill writes x into all of a list, its room too.
func fill[T any](l []T, x T) {
	l = l[:cap(l)]
	for i := range l {
		l[i] = x
	}
}

func spoil(l []api.Kept) {
	for _, k := range l {
		fill(k.Version.Keys, "!")
	}
	fill(l, api.Kept{Version: api.Version{Key: "!"}})
}

func copyOf(l []api.Kept) []api.Kept {
	var out []api.Kept
	for _, k := range l {
		k.Version.Keys = slices.Clone(k.Version.Keys)
		out = append(out, k)
	}
	return out
}

// on does a call; what it was handed and what it told are looked at, and spoilt at once.
func on(t *testing.T, s *Store, c call) answer {
	t.Helper()
	switch c.kind {
	case doPut:
		return onPut(t, s, c)
	case doCommit:
		n, err := s.Commit(c.id, c.now)
		return answer{n: n, err: err}
	case doHas:
		return answer{n: s.Has(c.id)}
	case doCommitted:
		return answer{yes: s.Committed(c.id)}
	case doLast:
		return answer{id: s.Last(c.key)}
	case doLatest:
		return spoilt(s.Latest(c.key), 0)
	case doByID:
		return spoilt(s.ByID(c.key, c.id))
	case doKept:
		told := s.Kept()
		defer spoil(told)
		return answer{kept: copyOf(told)}
	case doLasts:
		told := s.Lasts()
		defer fill(told, api.Last{Key: "!", ID: 77})
		return answer{lasts: slices.Clone(told)}
	}
	return answer{err: s.Drop(c.key, c.id)}
}

func spoilt(v api.Version, err api.Errno) answer {
	told := v
	told.Keys = slices.Clone(v.Keys)
	fill(v.Keys, "!")
	return answer{version: told, err: err}
}

func onPut(t *testing.T, s *Store, c call) answer {
	t.Helper()
	signs := api.Pair{Key: signOf, Value: signOf}
	pairs, keys := with(c.pairs, signs), with(c.keys, signOf)
	yes, err := s.Put(c.id, pairs, keys, c.now)
	if !holds(pairs, c.pairs, signs, equal) || !holds(keys, c.keys, signOf, equal) {
		t.Fatalf("P11.6: %v changed what was handed in", c)
	}
	fill(pairs, api.Pair{Key: "!", Value: "!"})
	fill(keys, "!")
	return answer{yes: yes, err: err}
}

// load is Load, with what it was handed looked at, and spoilt at once.
func load(t *testing.T, versions []api.Kept, lasts []api.Last) (*Store, api.Errno) {
	t.Helper()
	in := copyOf(versions)
	for i := range in {
		in[i].Version.Keys = with(in[i].Version.Keys, signOf)
	}
	sign, signLast := kept(7, signOf, 7, signOf, signOf), api.Last{Key: signOf, ID: 7}
	in = with(in, sign)
	inLasts := with(lasts, signLast)
	s, err := Load(in, inLasts)
	if !holds(in, versions, sign, sameKept) || !holds(inLasts, lasts, signLast, equal) {
		t.Fatalf("P11.6: Load(%s, %s) changed what was handed in", short(versions), short(lasts))
	}
	for i, k := range in {
		if !holds(k.Version.Keys, versions[i].Version.Keys, signOf, equal) {
			t.Fatalf("P11.6: Load(%s, %s) changed the Keys of version %d", short(versions), short(lasts), i)
		}
	}
	if (s == nil) != (err != 0) {
		t.Fatalf("P11.1: Load(%s, %s) = %v, %d", short(versions), short(lasts), s, err)
	}
	spoil(in)
	fill(inLasts, api.Last{Key: "!", ID: 77})
	return s, err
}

// The model: the chapter's words, done to lists, the slow way.

type model struct {
	kept []api.Kept // in the order in which they came
	last map[string]api.ID
}

func newModel() *model { return &model{last: map[string]api.ID{}} }

func modelKeys(l []string) bool {
	for i, key := range l {
		if len(key) > maxBytes || i > 0 && l[i-1] >= key {
			return false
		}
	}
	return len(l) >= 1 && len(l) <= maxSet
}

func modelMay(id api.ID, pairs []api.Pair, keys []string) bool {
	for i, p := range pairs {
		if len(p.Value) > maxBytes || !slices.Contains(keys, p.Key) || i > 0 && pairs[i-1].Key >= p.Key {
			return false
		}
	}
	return id >= 65536 && modelKeys(keys) && len(pairs) >= 1
}

func modelTick(now int64) bool { return now >= 0 && now <= maxTick }

func (m *model) at(key string, id api.ID) int {
	return slices.IndexFunc(m.kept, func(k api.Kept) bool { return k.Version.Key == key && k.Version.ID == id })
}

func (m *model) put(c call) answer {
	if !modelMay(c.id, c.pairs, c.keys) || !modelTick(c.now) {
		return answer{err: errArg}
	}
	var a answer
	for _, p := range c.pairs {
		if m.at(p.Key, c.id) >= 0 {
			continue
		}
		stamp := int64(-1)
		if c.id < m.last[p.Key] {
			stamp = c.now
		}
		m.kept = append(m.kept, kept(stamp, p.Key, c.id, p.Value, c.keys...))
		a.yes = true
	}
	return a
}

func (m *model) commit(c call) answer {
	if c.id < 65536 || !modelTick(c.now) {
		return answer{err: errArg}
	}
	for _, k := range m.kept {
		key := k.Version.Key
		if k.Version.ID != c.id || m.last[key] >= c.id {
			continue
		}
		for i, other := range m.kept {
			if other.Version.Key == key && other.Version.ID >= m.last[key] && other.Version.ID < c.id {
				m.kept[i].Stamp = c.now
			}
		}
		m.last[key] = c.id
	}
	return answer{n: m.has(c.id)}
}

func (m *model) has(id api.ID) int {
	n := 0
	for _, k := range m.kept {
		if k.Version.ID == id {
			n++
		}
	}
	return n
}

func (m *model) committed(id api.ID) bool {
	for _, k := range m.kept {
		if k.Version.ID == id && m.last[k.Version.Key] < id {
			return false
		}
	}
	return true
}

func (m *model) byID(key string, id api.ID) answer {
	if i := m.at(key, id); i >= 0 {
		return answer{version: m.kept[i].Version}
	}
	return answer{err: errNone}
}

func (m *model) latest(key string) answer {
	if m.last[key] == 0 {
		return answer{version: api.Version{Key: key}}
	}
	return m.byID(key, m.last[key])
}

func (m *model) drop(c call) answer {
	i := m.at(c.key, c.id)
	if i < 0 {
		return answer{err: errNone}
	}
	if c.id >= m.last[c.key] {
		return answer{err: errArg}
	}
	m.kept = slices.Delete(m.kept, i, i+1)
	return answer{}
}

func (m *model) allKept() []api.Kept {
	out := slices.Clone(m.kept)
	slices.SortFunc(out, func(a, b api.Kept) int {
		switch x, y := a.Version, b.Version; {
		case x.Key < y.Key || x.Key == y.Key && x.ID < y.ID:
			return -1
		case x.Key == y.Key && x.ID == y.ID:
			return 0
		}
		return 1
	})
	return out
}

func (m *model) allLasts() []api.Last {
	var out []api.Last
	for key, id := range m.last {
		if id != 0 {
			out = append(out, api.Last{Key: key, ID: id})
		}
	}
	slices.SortFunc(out, func(a, b api.Last) int { return strings.Compare(a.Key, b.Key) })
	return out
}

func (m *model) do(c call) answer {
	switch c.kind {
	case doPut:
		return m.put(c)
	case doCommit:
		return m.commit(c)
	case doHas:
		return answer{n: m.has(c.id)}
	case doCommitted:
		return answer{yes: m.committed(c.id)}
	case doLast:
		return answer{id: m.last[c.key]}
	case doLatest:
		return m.latest(c.key)
	case doByID:
		return m.byID(c.key, c.id)
	case doKept:
		return answer{kept: m.allKept()}
	case doLasts:
		return answer{lasts: m.allLasts()}
	}
	return m.drop(c)
}

// modelLoad is whether a store can tell these.
func modelLoad(versions []api.Kept, lasts []api.Last) bool {
	last := map[string]api.ID{}
	for i, l := range lasts {
		last[l.Key] = l.ID
		there := func(k api.Kept) bool { return k.Version.Key == l.Key && k.Version.ID == l.ID }
		if !slices.ContainsFunc(versions, there) || i > 0 && lasts[i-1].Key >= l.Key {
			return false
		}
	}
	for i, k := range versions {
		v := k.Version
		if v.ID < 65536 || !modelKeys(v.Keys) || !slices.Contains(v.Keys, v.Key) || len(v.Value) > maxBytes {
			return false
		}
		if i > 0 {
			w := versions[i-1].Version
			if w.Key > v.Key || w.Key == v.Key && w.ID >= v.ID {
				return false
			}
		}
		if old := v.ID < last[v.Key]; old && !modelTick(k.Stamp) || !old && k.Stamp != -1 {
			return false
		}
	}
	return true
}

// Scripts and what is asked behind them.

// questions is all that can be asked of these keys and IDs.
func questions(keys []string, ids []api.ID) []call {
	out := []call{{kind: doKept}, {kind: doLasts}}
	for _, id := range ids {
		out = append(out, call{kind: doHas, id: id}, call{kind: doCommitted, id: id})
	}
	for _, key := range keys {
		out = append(out, call{kind: doLast, key: key}, call{kind: doLatest, key: key})
		for _, id := range ids {
			out = append(out, byIDOf(key, id))
		}
	}
	return out
}

// answers does calls to a store and to the model, and holds what they answer against each other.
func answers(t *testing.T, s *Store, m *model, calls []call) {
	t.Helper()
	for i, c := range calls {
		if got, want := on(t, s, c), m.do(c); !same(got, want) {
			t.Fatalf("P11.1: %v = %s, want %s, behind %s", c, short(got), short(want), short(calls[:i]))
		}
	}
}

// alike asks two stores the same.
func alike(t *testing.T, a, b *Store, asked []call, script []call) {
	t.Helper()
	for _, c := range asked {
		if x, y := on(t, a, c), on(t, b, c); !same(x, y) {
			t.Fatalf("P11.5: %v = %s, and of the loaded store %s, behind %v", c, short(x), short(y), script)
		}
	}
}

// is does one call and tells whether it answered that.
func is(t *testing.T, s *Store, c call, want answer) {
	t.Helper()
	if got := on(t, s, c); !same(got, want) {
		t.Fatalf("P11.1: %v = %s, want %s", c, short(got), short(want))
	}
}

func keptIs(t *testing.T, s *Store, want ...api.Kept) {
	t.Helper()
	is(t, s, call{kind: doKept}, answer{kept: want})
}

func lastsIs(t *testing.T, s *Store, want ...api.Last) {
	t.Helper()
	is(t, s, call{kind: doLasts}, answer{lasts: want})
}

func latestIs(t *testing.T, s *Store, key string, want api.Version) {
	t.Helper()
	is(t, s, call{kind: doLatest, key: key}, answer{version: want})
	is(t, s, call{kind: doLast, key: key}, answer{id: want.ID})
}

func hasIs(t *testing.T, s *Store, id api.ID, n int, committed bool) {
	t.Helper()
	is(t, s, call{kind: doHas, id: id}, answer{n: n})
	is(t, s, call{kind: doCommitted, id: id}, answer{yes: committed})
}

// scripted is a store behind calls, all of which must answer OK.
func scripted(t *testing.T, calls ...call) *Store {
	t.Helper()
	s := New()
	for _, c := range calls {
		if a := on(t, s, c); a.err != 0 {
			t.Fatalf("P11.1: %v = %s", c, short(a))
		}
	}
	return s
}

func TestExamples(t *testing.T) {
	s := New()
	first := putOf(one, says("a", "x", "b", "y"), list("a", "b"), 5)
	is(t, s, first, answer{yes: true})
	is(t, s, first, answer{})
	hasIs(t, s, one, 2, false)
	latestIs(t, s, "a", api.Version{Key: "a"})
	is(t, s, commitOf(one, 6), answer{n: 2})
	latestIs(t, s, "a", versionOf("a", one, "x", "a", "b"))

	is(t, s, putOf(three, says("a", "z"), list("a", "c"), 7), answer{yes: true})
	is(t, s, byIDOf("a", three), answer{version: versionOf("a", three, "z", "a", "c")})
	latestIs(t, s, "a", versionOf("a", one, "x", "a", "b"))
	is(t, s, commitOf(three, 9), answer{n: 1})
	lastsIs(t, s, api.Last{Key: "a", ID: three}, api.Last{Key: "b", ID: one})
	keptIs(t, s, kept(9, "a", one, "x", "a", "b"), kept(-1, "a", three, "z", "a", "c"), kept(-1, "b", one, "y", "a", "b"))
	is(t, s, dropOf("a", three), answer{err: errArg})
	is(t, s, dropOf("a", one), answer{})
	is(t, s, dropOf("a", one), answer{err: errNone})
	hasIs(t, s, one, 1, true)

	is(t, s, putOf(one, says("a", "q"), list("a", "b"), 12), answer{yes: true})
	behind := []api.Kept{kept(12, "a", one, "q", "a", "b"), kept(-1, "a", three, "z", "a", "c"), kept(-1, "b", one, "y", "a", "b")}
	keptIs(t, s, behind...)
	is(t, s, commitOf(one, 13), answer{n: 2})
	keptIs(t, s, behind...)
	lastsIs(t, s, api.Last{Key: "a", ID: three}, api.Last{Key: "b", ID: one})

	ab := list("a", "b")
	for _, c := range []call{
		putOf(65535, says("a", "x"), ab, 1), putOf(one, nil, ab, 1), putOf(one, says("b", "", "a", ""), ab, 1),
		putOf(one, says("c", ""), ab, 1), putOf(one, says("a", "x"), ab, -1),
	} {
		is(t, s, c, answer{err: errArg})
	}
	keptIs(t, s, behind...)
}

func TestEmpty(t *testing.T) {
	s := New()
	keptIs(t, s)
	lastsIs(t, s)
	for _, key := range list("", "a", long(70000)) {
		latestIs(t, s, key, api.Version{Key: key})
		for _, id := range []api.ID{0, 1, 65535, one, lastID} {
			is(t, s, byIDOf(key, id), answer{err: errNone})
			is(t, s, dropOf(key, id), answer{err: errNone})
		}
	}
	for _, id := range []api.ID{0, 1, 65535, one, lastID} {
		hasIs(t, s, id, 0, true)
	}
	is(t, s, commitOf(one, 0), answer{})
	keptIs(t, s)
	lastsIs(t, s)
}

// Two stores have nothing in common.
func TestTwoStores(t *testing.T) {
	a, b := New(), New()
	on(t, a, putOf(one, says("a", "x"), list("a"), 1))
	on(t, a, commitOf(one, 1))
	keptIs(t, b)
	lastsIs(t, b)
	hasIs(t, b, one, 0, true)
	on(t, b, putOf(one, says("a", "y"), list("a", "b"), 1))
	is(t, a, byIDOf("a", one), answer{version: versionOf("a", one, "x", "a")})
	latestIs(t, b, "a", api.Version{Key: "a"})
}

// edge is a Put, and whether what it says may be.
type edge struct {
	what string
	put  call
	ok   bool
}

func idEdges() []edge {
	a := list("a")
	x := says("a", "x")
	return []edge{
		{"the id 0", putOf(0, x, a, 1), false},
		{"the id 1", putOf(1, x, a, 1), false},
		{"the id 65535", putOf(65535, x, a, 1), false},
		{"the id 65536", putOf(65536, x, a, 1), true},
		{"the id 65537", putOf(65537, x, a, 1), true},
		{"the id 1<<63", putOf(1<<63, x, a, 1), true},
		{"the last id", putOf(lastID, x, a, 1), true},
		{"the tick -1", putOf(one, x, a, -1), false},
		{"the least tick of all", putOf(one, x, a, math.MinInt64), false},
		{"the tick 0", putOf(one, x, a, 0), true},
		{"the last tick", putOf(one, x, a, maxTick), true},
		{"one tick more", putOf(one, x, a, maxTick+1), false},
		{"the greatest tick of all", putOf(one, x, a, math.MaxInt64), false},
	}
}

func listEdges() []edge {
	a, ab := list("a"), list("a", "b")
	x := says("a", "x")
	full, over := numbers(maxSet), numbers(maxSet+1)
	return []edge{
		{"no pairs", putOf(one, nil, a, 1), false},
		{"no keys", putOf(one, x, nil, 1), false},
		{"nothing", putOf(one, nil, nil, 1), false},
		{"keys that fall", putOf(one, x, list("b", "a"), 1), false},
		{"a key twice", putOf(one, x, list("a", "a"), 1), false},
		{"keys that fall at the end", putOf(one, x, list("a", "c", "b"), 1), false},
		{"a key twice at the end", putOf(one, x, list("a", "b", "b"), 1), false},
		{"the empty key twice", putOf(one, x, list("", "", "a"), 1), false},
		{"pairs that fall", putOf(one, says("b", "x", "a", "y"), ab, 1), false},
		{"a pair twice", putOf(one, says("a", "x", "a", "x"), ab, 1), false},
		{"a pair's key twice", putOf(one, says("a", "x", "a", "y"), ab, 1), false},
		{"pairs that fall at the end", putOf(one, says("a", "", "c", "", "b", ""), list("a", "b", "c"), 1), false},
		{"a pair's key twice at the end", putOf(one, says("a", "", "b", "", "b", ""), ab, 1), false},
		{"a pair ahead of the keys", putOf(one, says("", "x"), ab, 1), false},
		{"a pair behind the keys", putOf(one, says("c", "x"), ab, 1), false},
		{"a pair between the keys", putOf(one, says("aa", "x"), ab, 1), false},
		{"one pair among the keys and one not", putOf(one, says("a", "x", "c", "y"), ab, 1), false},
		{"one pair not among the keys and one that is", putOf(one, says("a", "x", "b", "y"), list("b"), 1), false},
		{"a key that begins alike", putOf(one, says("a\x00", "x"), a, 1), false},
		{"all keys", putOf(one, says("a", "x", "b", "y"), ab, 1), true},
		{"the second key", putOf(one, says("b", "y"), ab, 1), true},
		{"the empty key", putOf(one, says("", "x"), list(""), 1), true},
		{"the empty key and others", putOf(one, says("", "x", "a", "y"), list("", "a", "b"), 1), true},
		{"any bytes", putOf(one, says("\x00", "\xff", "\xff\xfe", "\x00"), list("\x00", "a\x00", "\xff\xfe"), 1), true},
		{"1024 keys", putOf(one, says(full[0], "x"), full, 1), true},
		{"1024 pairs", putOf(one, pairsOf(full, "x"), full, 1), true},
		{"1025 keys", putOf(one, says(full[0], "x"), over, 1), false},
		{"1025 pairs", putOf(one, pairsOf(over, "x"), over, 1), false},
		{"1025 pairs of 1024 keys", putOf(one, pairsOf(over, "x"), full, 1), false},
	}
}

func longEdges() []edge {
	k, over := long(maxBytes), long(maxBytes+1)
	return []edge{
		{"a key of 65535 bytes", putOf(one, says(k, "x"), list(k), 1), true},
		{"a key of 65536 bytes", putOf(one, says(over, "x"), list(over), 1), false},
		{"a key of 65535 bytes beside", putOf(one, says("a", "x"), list("a", k), 1), true},
		{"a key of 65536 bytes beside", putOf(one, says("a", "x"), list("a", over), 1), false},
		{"a key of 65536 bytes in the midst", putOf(one, says("a", "x"), list("a", over, "z"), 1), false},
		{"a value of 65535 bytes", putOf(one, says("a", k), list("a"), 1), true},
		{"a value of 65536 bytes", putOf(one, says("a", over), list("a"), 1), false},
		{"a second value of 65536 bytes", putOf(one, says("a", "", "b", over), list("a", "b"), 1), false},
		{"the empty value", putOf(one, says("a", ""), list("a"), 1), true},
	}
}

func TestPutEdges(t *testing.T) {
	rows := slices.Concat(idEdges(), listEdges(), longEdges())
	for _, row := range rows {
		s, m := scripted(t, putOf(two, says("b", "w"), list("b"), 3)), newModel()
		m.do(putOf(two, says("b", "w"), list("b"), 3))
		want := answer{yes: row.ok}
		if !row.ok {
			want.err = errArg
		}
		if got := on(t, s, row.put); !same(got, want) {
			t.Fatalf("P11.1: Put of %s = %s, want %s", row.what, short(got), short(want))
		}
		m.do(row.put)
		asked := questions(list("", "a", "b", "c", "\x00", "0000000"), []api.ID{0, 65535, one, two, row.put.id})
		answers(t, s, m, asked)
		is(t, s, row.put, answer{err: want.err})
		answers(t, s, m, asked)
	}
}

// A refused call changes nothing, whatever else it says.
func TestRefusedIsUnchanged(t *testing.T) {
	script := []call{
		putOf(one, says("a", "x", "b", "y"), list("a", "b"), 1), commitOf(one, 2),
		putOf(three, says("a", "z"), list("a"), 3), commitOf(three, 4), putOf(1<<40, says("a", "p"), list("a"), 5),
	}
	s, m := scripted(t, script...), newModel()
	for _, c := range script {
		m.do(c)
	}
	asked := questions(list("", "a", "b", "c"), []api.ID{0, 7, 65535, one, two, three, 1 << 40})
	fresh := says("a", "new", "c", "new")
	for _, c := range []call{
		putOf(1<<41, fresh, list("a", "c"), -1), putOf(1<<41, fresh, list("a", "c"), maxTick+1), putOf(1<<41, fresh, list("c", "a"), 9),
		putOf(1<<41, append(fresh, says("d", "")...), list("a", "c"), 9), putOf(65535, fresh, list("a", "c"), 9),
		commitOf(0, 9), commitOf(65535, 9), commitOf(1<<40, -1), commitOf(1<<40, maxTick+1), commitOf(1<<40, math.MinInt64),
		dropOf("a", three), dropOf("a", 1<<40), dropOf("b", one), dropOf("b", three), dropOf("c", one), dropOf("", 0),
	} {
		if a := on(t, s, c); a.err == 0 || a.yes || a.n != 0 {
			t.Fatalf("P11.1: %v = %s", c, short(a))
		}
		answers(t, s, m, asked)
	}
}

func TestCommitEdges(t *testing.T) {
	for _, id := range []api.ID{one, lastID} {
		for _, now := range []int64{0, 1, maxTick} {
			s := scripted(t, putOf(id, says("", "x", "a", "y"), list("", "a", "b"), now))
			is(t, s, commitOf(id-1, now), answer{err: map[bool]api.Errno{true: errArg}[id == one]})
			is(t, s, commitOf(id, now), answer{n: 2})
			lastsIs(t, s, api.Last{Key: "", ID: id}, api.Last{Key: "a", ID: id})
			keptIs(t, s, kept(-1, "", id, "x", "", "a", "b"), kept(-1, "a", id, "y", "", "a", "b"))
			is(t, s, commitOf(id, now), answer{n: 2})
			hasIs(t, s, id, 2, true)
		}
	}
	s := scripted(t, putOf(two, says("a", "y"), list("a"), 0))
	for _, c := range []call{
		commitOf(0, 0), commitOf(1, 0), commitOf(65535, 0), commitOf(two, -1), commitOf(two, maxTick+1),
		commitOf(two, math.MaxInt64), commitOf(two, math.MinInt64), commitOf(65535, -1),
	} {
		is(t, s, c, answer{err: errArg})
	}
	is(t, s, commitOf(one, 0), answer{})
	is(t, s, commitOf(three, 0), answer{})
	lastsIs(t, s)
}

// A version above the last stays -1 until the last rises above it; stamps are of the Commit that did it.
func TestStamps(t *testing.T) {
	ids := []api.ID{100000, 200000, 300000, 400000, 500000}
	s := New()
	for _, id := range []int{3, 0, 4, 2, 1} {
		on(t, s, putOf(ids[id], says("a", "v"), list("a"), 1))
	}
	stamps := func(want ...int64) {
		t.Helper()
		var got []int64
		for _, k := range s.Kept() {
			got = append(got, k.Stamp)
		}
		if !slices.Equal(got, want) {
			t.Fatalf("P11.1: the stamps %v, want %v", got, want)
		}
	}
	stamps(-1, -1, -1, -1, -1)
	on(t, s, commitOf(ids[1], 10))
	stamps(10, -1, -1, -1, -1)
	on(t, s, commitOf(ids[0], 11))
	stamps(10, -1, -1, -1, -1)
	on(t, s, commitOf(ids[1], 12))
	stamps(10, -1, -1, -1, -1)
	on(t, s, commitOf(ids[3], 0)) // ticks may fall: nothing is said of that
	stamps(10, 0, 0, -1, -1)
	on(t, s, putOf(250000, says("a", "w"), list("a"), 14))
	stamps(10, 0, 14, 0, -1, -1)
	on(t, s, putOf(450000, says("a", "w"), list("a"), 15))
	stamps(10, 0, 14, 0, -1, -1, -1)
	on(t, s, commitOf(250000, 16))
	stamps(10, 0, 14, 0, -1, -1, -1)
	on(t, s, commitOf(ids[4], maxTick))
	stamps(10, 0, 14, 0, maxTick, maxTick, -1)
}

func TestPutAgain(t *testing.T) {
	s := scripted(t, putOf(one, says("a", "x"), list("a", "b"), 1))
	is(t, s, putOf(one, says("a", "other"), list("a", "c"), 2), answer{})
	keptIs(t, s, kept(-1, "a", one, "x", "a", "b"))
	is(t, s, putOf(one, says("a", "other", "b", "y"), list("a", "b", "c"), 3), answer{yes: true})
	keptIs(t, s, kept(-1, "a", one, "x", "a", "b"), kept(-1, "b", one, "y", "a", "b", "c"))
	hasIs(t, s, one, 2, false)
	on(t, s, commitOf(one, 4))
	is(t, s, putOf(one, says("a", "third"), list("a"), 5), answer{})
	latestIs(t, s, "a", versionOf("a", one, "x", "a", "b"))
	on(t, s, putOf(three, says("a", "z"), list("a"), 6))
	on(t, s, commitOf(three, 7))
	is(t, s, putOf(one, says("a", "fourth"), list("a"), 8), answer{})
	keptIs(t, s, kept(7, "a", one, "x", "a", "b"), kept(-1, "a", three, "z", "a"), kept(-1, "b", one, "y", "a", "b", "c"))
}

func TestPutBelowTheLast(t *testing.T) {
	s := scripted(t, putOf(three, says("a", "z"), list("a"), 1), commitOf(three, 2))
	is(t, s, putOf(one, says("a", "x", "b", "y"), list("a", "b"), 3), answer{yes: true})
	want := []api.Kept{kept(3, "a", one, "x", "a", "b"), kept(-1, "a", three, "z", "a"), kept(-1, "b", one, "y", "a", "b")}
	keptIs(t, s, want...)
	hasIs(t, s, one, 2, false)
	is(t, s, commitOf(one, 4), answer{n: 2})
	keptIs(t, s, want...)
	lastsIs(t, s, api.Last{Key: "a", ID: three}, api.Last{Key: "b", ID: one})
	hasIs(t, s, one, 2, true)
	is(t, s, dropOf("a", one), answer{})
	is(t, s, dropOf("b", one), answer{err: errArg})
	keptIs(t, s, want[1:]...)
}

// Of a write some of whose versions were dropped the others alone are touched.
func TestCommitOfSome(t *testing.T) {
	s := scripted(t,
		putOf(one, says("a", "x", "b", "y"), list("a", "b"), 1),
		putOf(three, says("a", "z"), list("a"), 2), commitOf(three, 3), dropOf("a", one))
	hasIs(t, s, one, 1, false)
	is(t, s, commitOf(one, 4), answer{n: 1})
	hasIs(t, s, one, 1, true)
	keptIs(t, s, kept(-1, "a", three, "z", "a"), kept(-1, "b", one, "y", "a", "b"))
	lastsIs(t, s, api.Last{Key: "a", ID: three}, api.Last{Key: "b", ID: one})
	on(t, s, putOf(1<<30, says("b", ""), list("b"), 5))
	on(t, s, commitOf(1<<30, 6))
	is(t, s, dropOf("b", one), answer{})
	hasIs(t, s, one, 0, true)
	is(t, s, commitOf(one, 7), answer{})
}

func TestDrop(t *testing.T) {
	s := scripted(t,
		putOf(one, says("", "x"), list(""), 1), putOf(two, says("", "y"), list("", "b"), 2),
		putOf(three, says("", "z"), list(""), 3))
	for _, id := range []api.ID{one, two, three} {
		is(t, s, dropOf("", id), answer{err: errArg}) // no last: none is old
	}
	on(t, s, commitOf(two, 4))
	is(t, s, dropOf("", three), answer{err: errArg})
	is(t, s, dropOf("", two), answer{err: errArg})
	is(t, s, dropOf("b", two), answer{err: errNone})
	is(t, s, dropOf("", 65538), answer{err: errNone})
	is(t, s, dropOf("", 0), answer{err: errNone})
	is(t, s, dropOf("", one), answer{})
	is(t, s, byIDOf("", one), answer{err: errNone})
	hasIs(t, s, one, 0, true)
	is(t, s, dropOf("", one), answer{err: errNone})
	is(t, s, putOf(one, says("", "again"), list("", "c"), 9), answer{yes: true})
	is(t, s, byIDOf("", one), answer{version: versionOf("", one, "again", "", "c")})
	keptIs(t, s, kept(9, "", one, "again", "", "c"), kept(-1, "", two, "y", "", "b"), kept(-1, "", three, "z", ""))
	hasIs(t, s, one, 1, true)
	is(t, s, dropOf("", one), answer{})
	on(t, s, commitOf(three, 10))
	is(t, s, dropOf("", two), answer{})
	keptIs(t, s, kept(-1, "", three, "z", ""))
	lastsIs(t, s, api.Last{Key: "", ID: three})
}

// The order of Kept and Lasts is that of bytes, then of numbers.
func TestOrder(t *testing.T) {
	keys := list("", "\x00", "A", "a", "a\x00", "aa", "b", "é", "\xff")
	ids := []api.ID{one, two, three, 1 << 32, 1<<63 - 1, 1 << 63, lastID}
	g := rand.New(rand.NewSource(1))
	for range 20 {
		s := New()
		var want []api.Kept
		var lasts []api.Last
		for _, key := range keys {
			lasts = append(lasts, api.Last{Key: key, ID: lastID})
			for _, id := range ids {
				stamp := int64(7)
				if id == lastID {
					stamp = -1
				}
				want = append(want, kept(stamp, key, id, "v", key))
			}
		}
		for _, i := range g.Perm(len(want)) {
			v := want[i].Version
			on(t, s, putOf(v.ID, says(v.Key, "v"), list(v.Key), 1))
		}
		lastsIs(t, s)
		on(t, s, commitOf(lastID, 7))
		keptIs(t, s, want...)
		lastsIs(t, s, lasts...)
	}
}

// smallCalls is calls of few keys and writes: scripts of them come upon all that a store can be in small.
func smallCalls() []call {
	return []call{
		putOf(one, says("", "x", "a", "y"), list("", "a"), 0), putOf(one, says("a", "z"), list("a", "b"), 0),
		putOf(two, says("a", "w"), list("a"), 0), putOf(three, says("", "v", "a", "u"), list("", "a"), 0),
		commitOf(one, 0), commitOf(two, 0), commitOf(three, 0),
		dropOf("a", one), dropOf("a", two), dropOf("", one),
	}
}

// scripts calls f with each script of n of the calls; the tick of a call is its place.
func scripts(calls []call, n int, f func(script []call)) {
	script := make([]call, n)
	var from func(i int)
	from = func(i int) {
		if i == n {
			f(script)
			return
		}
		for _, c := range calls {
			if c.kind != doDrop {
				c.now = int64(i)
			}
			script[i] = c
			from(i + 1)
		}
	}
	from(0)
}

func smallQuestions() []call {
	return questions(list("", "a", "b"), []api.ID{one, two, three})
}

func TestAllShortScripts(t *testing.T) {
	asked := smallQuestions()
	for n := range 6 {
		scripts(smallCalls(), n, func(script []call) {
			s, m := New(), newModel()
			answers(t, s, m, script)
			for _, c := range asked {
				if got, want := on(t, s, c), m.do(c); !same(got, want) {
					t.Fatalf("P11.1: %v = %s, want %s, behind %v", c, short(got), short(want), script)
				}
			}
		})
	}
}

// chance makes calls of all kinds, wrong ones too, of few keys and IDs.
type chance struct {
	*rand.Rand
	keys []string
	ids  []api.ID
}

func newChance(seed int64) chance {
	g := rand.New(rand.NewSource(seed))
	ids := []api.ID{one, two, three}
	for range 1 + g.Intn(6) {
		ids = append(ids, api.ID(g.Uint64())|65536)
	}
	return chance{Rand: g, keys: list("", "a", "a\x00", "b", "key", "\xff")[:1+g.Intn(6)], ids: ids}
}

func (c chance) key() string {
	if c.Intn(20) == 0 {
		return "nobody's"
	}
	return c.keys[c.Intn(len(c.keys))]
}

func (c chance) id() api.ID {
	if c.Intn(20) == 0 {
		return []api.ID{0, 1, 65535, lastID, 65539}[c.Intn(5)]
	}
	return c.ids[c.Intn(len(c.ids))]
}

func (c chance) tick() int64 {
	if c.Intn(20) == 0 {
		return []int64{-1, 0, maxTick, maxTick + 1, math.MinInt64, math.MaxInt64}[c.Intn(6)]
	}
	return int64(c.Intn(50))
}

// some is some of a rising list, rising.
func some[T any](c chance, l []T) []T {
	var out []T
	for _, x := range l {
		if c.Intn(3) > 0 {
			out = append(out, x)
		}
	}
	return out
}

func (c chance) put() call {
	keys := some(c, c.keys)
	var pairs []api.Pair
	for _, key := range some(c, keys) {
		pairs = append(pairs, api.Pair{Key: key, Value: fmt.Sprint(c.Intn(1000))})
	}
	if c.Intn(15) == 0 {
		c.Shuffle(len(keys), func(i, j int) { keys[i], keys[j] = keys[j], keys[i] })
	}
	if c.Intn(15) == 0 {
		pairs = append(pairs, api.Pair{Key: c.key()})
	}
	if c.Intn(15) == 0 {
		keys = append(keys, c.key())
	}
	return putOf(c.id(), pairs, keys, c.tick())
}

func (c chance) call() call {
	switch c.Intn(8) {
	case 0, 1, 2:
		return c.put()
	case 3, 4:
		return commitOf(c.id(), c.tick())
	case 5, 6:
		return dropOf(c.key(), c.id())
	}
	return call{kind: c.Intn(10), key: c.key(), id: c.id(), now: c.tick()}
}

func (c chance) questions() []call {
	return questions(append(list("nobody's"), c.keys...), append([]api.ID{0, 65535, lastID}, c.ids...))
}

func TestChance(t *testing.T) {
	for seed := range int64(150) {
		c := newChance(seed)
		s, m := New(), newModel()
		asked := c.questions()
		for range 120 {
			did := c.call()
			answers(t, s, m, []call{did})
			if did.changes() {
				answers(t, s, m, asked)
			}
		}
	}
}

// The same script on new stores is answered alike.
func TestOneOutcome(t *testing.T) {
	for seed := range int64(30) {
		c := newChance(seed)
		var script []call
		for range 150 {
			script = append(script, c.call())
		}
		a, b := New(), New()
		for i, did := range script {
			if x, y := on(t, a, did), on(t, b, did); !same(x, y) {
				t.Fatalf("P11.1: %v = %s, and on another store %s, behind %v", did, short(x), short(y), script[:i])
			}
		}
	}
}

// diary holds P11.2 and P11.3 against a store by what it tells alone.
type diary struct {
	greatest map[string]api.ID        // for which Commit was called while the key had a version of it
	first    map[api.Want]api.Version // what the first Put of a key and ID brought, till it is dropped
	stamps   map[api.Want]int64       // what Kept told behind the call ahead
}

func newDiary() *diary {
	return &diary{map[string]api.ID{}, map[api.Want]api.Version{}, map[api.Want]int64{}}
}

// do does a call, and looks at all that the store tells.
func (y *diary) do(t *testing.T, s *Store, c call, keys []string) {
	t.Helper()
	there := map[string]bool{}
	for _, key := range keys {
		_, err := s.ByID(key, c.id)
		there[key] = err == 0
	}
	a := on(t, s, c)
	if a.err == 0 {
		y.note(c, there)
	}
	y.greatestIs(t, s, c, keys)
	y.nothingWent(t, s, c, a.err == 0)
}

// note is what a call that was answered OK must have done.
func (y *diary) note(c call, there map[string]bool) {
	switch c.kind {
	case doPut:
		for _, p := range c.pairs {
			if w := (api.Want{Key: p.Key, ID: c.id}); !there[p.Key] {
				y.first[w] = versionOf(p.Key, c.id, p.Value, c.keys...)
				y.stamps[w] = -2
			}
		}
	case doCommit:
		for key, has := range there {
			if has {
				y.greatest[key] = max(y.greatest[key], c.id)
			}
		}
	case doDrop:
		delete(y.first, api.Want{Key: c.key, ID: c.id})
		delete(y.stamps, api.Want{Key: c.key, ID: c.id})
	}
}

func (y *diary) greatestIs(t *testing.T, s *Store, c call, keys []string) {
	t.Helper()
	for _, key := range keys {
		want := y.greatest[key]
		last, latest := s.Last(key), s.Latest(key)
		if last != want || latest.ID != want || latest.Key != key {
			t.Fatalf("P11.2: behind %v: Last(%q) = %d, Latest %s, want %d", c, key, last, short(latest), want)
		}
		if v, err := s.ByID(key, last); last != 0 && (err != 0 || !sameVersion(v, latest)) {
			t.Fatalf("P11.2: behind %v: the last %d of %q: %s, %d, Latest %s", c, last, key, short(v), err, short(latest))
		}
	}
}

// nothingWent looks at every version that must be there, and that no other is.
func (y *diary) nothingWent(t *testing.T, s *Store, c call, done bool) {
	t.Helper()
	all := s.Kept()
	if len(all) != len(y.first) {
		t.Fatalf("P11.3: behind %v there are %d versions, want %d", c, len(all), len(y.first))
	}
	for w, want := range y.first {
		if v, err := s.ByID(w.Key, w.ID); err != 0 || !sameVersion(v, want) {
			t.Fatalf("P11.3: behind %v: ByID(%q, %d) = %s, %d, want %s", c, w.Key, w.ID, short(v), err, short(want))
		}
	}
	for _, k := range all {
		w := api.Want{Key: k.Version.Key, ID: k.Version.ID}
		was, stamp := y.stamps[w], k.Stamp
		begun := was == -2 && (stamp == -1 || stamp == c.now)
		rose := was == -1 && stamp == c.now && c.kind == doCommit && done
		if stamp != was && !begun && !rose || stamp < -1 {
			t.Fatalf("P11.3: behind %v: the stamp of %q %d was %d and is %d", c, w.Key, w.ID, was, stamp)
		}
		if !sameVersion(k.Version, y.first[w]) {
			t.Fatalf("P11.3: behind %v: Kept tells %s, want %s", c, short(k.Version), short(y.first[w]))
		}
		y.stamps[w] = stamp
	}
}

func TestGreatestAndNothingGoes(t *testing.T) {
	keys := list("", "a", "b")
	scripts(smallCalls(), 4, func(script []call) {
		s, y := New(), newDiary()
		for _, c := range script {
			y.do(t, s, c, keys)
		}
	})
	for seed := range int64(60) {
		c := newChance(1000 + seed)
		s, y := New(), newDiary()
		for range 120 {
			y.do(t, s, c.call(), append(list("nobody's"), c.keys...))
		}
	}
}

// contents is what P11.4 speaks of: the lasts, and the versions without their stamps.
func contents(s *Store) string {
	all := s.Kept()
	for i := range all {
		all[i].Stamp = 0
	}
	return fmt.Sprintf("%#v %#v", s.Lasts(), all)
}

// orders calls f with all orders of the numbers below n.
func orders(n int, f func(order []int)) {
	var from func(order []int)
	from = func(order []int) {
		if len(order) == n {
			f(order)
			return
		}
		for i := range n {
			if !slices.Contains(order, i) {
				from(append(slices.Clone(order), i))
			}
		}
	}
	from(nil)
}

func fivePuts() []call {
	return []call{
		putOf(one, says("a", "1", "b", "2"), list("a", "b", "z"), 1), putOf(two, says("", "3", "a", "4"), list("", "a"), 2),
		putOf(three, says("b", "5"), list("b", "c"), 3), putOf(1<<40, says("", "6", "c", "7"), list("", "c"), 4),
		putOf(1<<40, says("a", "8"), list("", "a", "c"), 5), // a second part of that write, with Keys of its own
	}
}

func TestInAnyOrder(t *testing.T) {
	puts := fivePuts()
	commits := []call{commitOf(one, 6), commitOf(two, 7), commitOf(three, 8), commitOf(1<<40, 9)}
	want := contents(scripted(t, append(slices.Clone(puts), commits...)...))
	orders(len(puts), func(order []int) {
		s := New()
		for _, i := range order {
			on(t, s, puts[i])
		}
		for _, c := range commits {
			on(t, s, c)
		}
		if got := contents(s); got != want {
			t.Fatalf("P11.4: Puts in the order %v: %s, want %s", order, got, want)
		}
	})
	orders(len(commits), func(order []int) {
		s := scripted(t, puts...)
		for _, i := range order {
			on(t, s, commits[i])
			on(t, s, commits[order[0]])
			on(t, s, puts[i])
		}
		if got := contents(s); got != want {
			t.Fatalf("P11.4: Commits in the order %v: %s, want %s", order, got, want)
		}
	})
}

// Any order of chance, any of them again and again.
func TestInAnyOrderByChance(t *testing.T) {
	for seed := range int64(60) {
		c := newChance(2000 + seed)
		var puts, commits []call
		for i, id := range c.ids {
			keys := some(c, c.keys)
			put := putOf(id, pairsOf(some(c, keys), fmt.Sprint(i)), keys, int64(i))
			if len(put.pairs) == 0 {
				continue
			}
			puts = append(puts, put)
			if c.Intn(4) > 0 {
				commits = append(commits, commitOf(id, int64(100+i)))
			}
		}
		want := contents(scripted(t, append(slices.Clone(puts), commits...)...))
		for range 20 {
			s := New()
			for _, l := range [][]call{puts, commits} {
				mixed := again(c, l)
				for _, did := range mixed {
					on(t, s, did)
				}
			}
			if got := contents(s); got != want {
				t.Fatalf("P11.4: seed %d: %s, want %s", seed, got, want)
			}
		}
	}
}

// again is the calls in an order of chance, some more than once, at other ticks.
func again(c chance, l []call) []call {
	out := slices.Clone(l)
	for range len(l) {
		out = append(out, l[c.Intn(len(l))])
	}
	for i := range out {
		out[i].now = int64(c.Intn(1000))
	}
	c.Shuffle(len(out), func(i, j int) { out[i], out[j] = out[j], out[i] })
	return out
}

// Loaded stores.

// reload is a store of what another tells, and tells that too.
func reload(t *testing.T, s *Store) *Store {
	t.Helper()
	all, lasts := s.Kept(), s.Lasts()
	b, err := load(t, all, lasts)
	if err != 0 {
		t.Fatalf("P11.5: Load(%s, %s) = %d", short(all), short(lasts), err)
	}
	return b
}

func TestLoadedGoesOn(t *testing.T) {
	asked := smallQuestions()
	for cut := range 4 {
		scripts(smallCalls(), 3, func(script []call) {
			for _, c := range smallCalls() {
				whole := append(slices.Clone(script), c)
				a := New()
				for _, did := range whole[:cut] {
					on(t, a, did)
				}
				b := reload(t, a)
				alike(t, a, b, whole[cut:], whole)
				alike(t, a, b, asked, whole)
			}
		})
	}
}

func TestLoadedByChance(t *testing.T) {
	for seed := range int64(80) {
		c := newChance(3000 + seed)
		a, b := New(), New()
		asked := c.questions()
		var script []call
		for i := range 120 {
			if i%17 == 3 {
				b = reload(t, a)
				alike(t, a, b, asked, script)
			}
			script = append(script, c.call())
			alike(t, a, b, script[i:], script)
		}
		alike(t, a, b, asked, script)
	}
}

// The store that was loaded and the one that was told from are two.
func TestLoadedIsAnother(t *testing.T) {
	a := scripted(t, putOf(one, says("a", "x"), list("a"), 1), putOf(three, says("a", "y"), list("a"), 2))
	b := reload(t, a)
	on(t, b, commitOf(three, 3))
	on(t, b, dropOf("a", one))
	on(t, b, putOf(two, says("b", "w"), list("b"), 4))
	keptIs(t, a, kept(-1, "a", one, "x", "a"), kept(-1, "a", three, "y", "a"))
	lastsIs(t, a)
	on(t, a, commitOf(one, 5))
	lastsIs(t, b, api.Last{Key: "a", ID: three})
}

// loading is what Load is given, and whether a store can tell it.
type loading struct {
	what  string
	kept  []api.Kept
	lasts []api.Last
	ok    bool
}

func lasts(l ...api.Last) []api.Last { return l }

func last(key string, id api.ID) api.Last { return api.Last{Key: key, ID: id} }

func versions(l ...api.Kept) []api.Kept { return l }

func loadOrders() []loading {
	a1, a2, a3 := kept(-1, "a", one, "x", "a"), kept(-1, "a", two, "y", "a"), kept(-1, "a", three, "z", "a")
	b1, e1 := kept(-1, "b", one, "x", "a", "b"), kept(-1, "", one, "x", "", "a")
	return []loading{
		{"nothing", nil, nil, true},
		{"one version", versions(a1), nil, true},
		{"one that is the last", versions(a1), lasts(last("a", one)), true},
		{"several", versions(e1, a1, a2, a3, b1), nil, true},
		{"several with lasts", versions(e1, a1, a2, a3, b1), lasts(last("", one), last("a", one), last("b", one)), true},
		{"a key without a last between", versions(e1, a1, b1), lasts(last("", one), last("b", one)), true},
		{"IDs that fall", versions(a2, a1), nil, false},
		{"IDs that fall at the end", versions(a1, a3, a2), nil, false},
		{"a version twice", versions(a1, a1), nil, false},
		{"a version twice at the end", versions(e1, a1, a1), nil, false},
		{"a version twice with unlike contents", versions(a1, kept(-1, "a", one, "other", "a", "c")), nil, false},
		{"keys that fall", versions(b1, a1), nil, false},
		{"keys that fall while IDs rise", versions(b1, a2), nil, false},
		{"the empty key behind", versions(a1, e1), nil, false},
		{"keys that rise while IDs fall", versions(a3, b1), nil, true},
		{"lasts that fall", versions(a1, b1), lasts(last("b", one), last("a", one)), false},
		{"a last twice", versions(a1), lasts(last("a", one), last("a", one)), false},
		{"two lasts of a key", versions(kept(5, "a", one, "x", "a"), a2), lasts(last("a", one), last("a", two)), false},
		{"two lasts of a key, falling", versions(kept(5, "a", one, "x", "a"), a2), lasts(last("a", two), last("a", one)), false},
		{"a last alone", nil, lasts(last("a", one)), false},
		{"a last of another key", versions(a1), lasts(last("b", one)), false},
		{"a last of another ID", versions(a1), lasts(last("a", two)), false},
		{"a last below all versions", versions(a2), lasts(last("a", one)), false},
		{"a last of 0", versions(a1), lasts(last("a", 0)), false},
		{"a last of 0 alone", nil, lasts(last("", 0)), false},
		{"a last whose ID is another key's", versions(a1, b1), lasts(last("a", one), last("c", one)), false},
	}
}

func loadStamps() []loading {
	row := func(what string, stamp int64, id api.ID, ok bool) loading {
		l := versions(kept(-1, "a", two, "y", "a"))
		k := kept(stamp, "a", id, "x", "a")
		if id < two {
			l = versions(k, l[0])
		} else {
			l = versions(kept(3, "a", one, "w", "a"), l[0], k)
		}
		return loading{what, l, lasts(last("a", two)), ok}
	}
	lastStamp := func(stamp int64) []api.Kept { return versions(kept(stamp, "a", one, "x", "a")) }
	return []loading{
		row("an old one with the stamp 0", 0, one, true), row("an old one with the stamp MaxTick", maxTick, one, true),
		row("an old one with the stamp -1", -1, one, false), row("an old one with the stamp -2", -2, one, false),
		row("an old one with the stamp MaxTick + 1", maxTick+1, one, false), row("the least stamp of all", math.MinInt64, one, false),
		row("the greatest stamp of all", math.MaxInt64, one, false),
		row("one above with the stamp -1", -1, three, true), row("one above with the stamp 0", 0, three, false),
		row("one above with the stamp 5", 5, three, false), row("one above with the stamp -2", -2, three, false),
		{"a last with a stamp", lastStamp(0), lasts(last("a", one)), false},
		{"a last with the stamp -2", lastStamp(-2), lasts(last("a", one)), false},
		{"a prepared one with a stamp", lastStamp(4), nil, false},
		{"a prepared one with the stamp -2", lastStamp(-2), nil, false},
		{"old by the last of another key", versions(kept(4, "a", one, "x", "a"), kept(-1, "b", two, "x", "b")), lasts(last("b", two)), false},
	}
}

func loadContents() []loading {
	of := func(v api.Version) []api.Kept { return versions(api.Kept{Version: v, Stamp: -1}) }
	full, over := numbers(maxSet), numbers(maxSet+1)
	k, longer := long(maxBytes), long(maxBytes+1)
	return []loading{
		{"the ID 0", of(versionOf("a", 0, "", "a")), nil, false},
		{"the ID 65535", of(versionOf("a", 65535, "", "a")), nil, false},
		{"the ID 65536", of(versionOf("a", 65536, "", "a")), nil, true},
		{"the last ID", of(versionOf("a", lastID, "", "a")), nil, true},
		{"bottom", of(api.Version{Key: "a"}), nil, false},
		{"no Keys", of(versionOf("a", one, "x")), nil, false},
		{"Keys that fall", of(versionOf("a", one, "x", "b", "a")), nil, false},
		{"Keys that fall at the end", of(versionOf("a", one, "x", "a", "c", "b")), nil, false},
		{"a key twice", of(versionOf("a", one, "x", "a", "a")), nil, false},
		{"its key not among them", of(versionOf("a", one, "x", "b")), nil, false},
		{"its key between them", of(versionOf("b", one, "x", "a", "c")), nil, false},
		{"its key behind them", of(versionOf("d", one, "x", "a", "c")), nil, false},
		{"the empty key not among them", of(versionOf("", one, "x", "a")), nil, false},
		{"the empty key", of(versionOf("", one, "", "")), nil, true},
		{"1024 Keys", of(versionOf(full[1023], one, "x", full...)), nil, true},
		{"1025 Keys", of(versionOf(full[0], one, "x", over...)), nil, false},
		{"a key of 65535 bytes", of(versionOf(k, one, "x", k)), nil, true},
		{"a key of 65536 bytes", of(versionOf(longer, one, "x", longer)), nil, false},
		{"a key of 65536 bytes beside", of(versionOf("a", one, "x", "a", longer)), nil, false},
		{"a value of 65535 bytes", of(versionOf("a", one, k, "a")), nil, true},
		{"a value of 65536 bytes", of(versionOf("a", one, longer, "a")), nil, false},
		{"a second one that may not be", versions(kept(-1, "a", one, "x", "a"), kept(-1, "b", one, "x", "a")), nil, false},
		{"one write with unlike Keys", versions(kept(-1, "a", one, "x", "a"), kept(-1, "b", one, "x", "b", "c")), nil, true},
	}
}

func TestLoadEdges(t *testing.T) {
	for _, row := range slices.Concat(loadOrders(), loadStamps(), loadContents()) {
		checkLoad(t, row)
		if modelLoad(row.kept, row.lasts) != row.ok {
			t.Fatalf("the test's model of Load of %s", row.what)
		}
	}
}

func checkLoad(t *testing.T, row loading) {
	t.Helper()
	s, err := load(t, row.kept, row.lasts)
	if want := map[bool]api.Errno{false: errArg}[row.ok]; err != want {
		t.Fatalf("P11.1: Load of %s: %d, want %d (%s, %s)", row.what, err, want, short(row.kept), short(row.lasts))
	}
	if s == nil {
		return
	}
	keptIs(t, s, row.kept...)
	lastsIs(t, s, row.lasts...)
	m := &model{kept: copyOf(row.kept), last: map[string]api.ID{}}
	for _, l := range row.lasts {
		m.last[l.Key] = l.ID
	}
	answers(t, s, m, questions(list("", "a", "b"), []api.ID{0, one, two, three}))
	answers(t, s, m, []call{
		putOf(one, says("", "new", "a", "new"), list("", "a"), 20), commitOf(two, 21), dropOf("a", one), commitOf(one, 22), commitOf(three, 23),
		dropOf("b", one), putOf(two, says("a", "late"), list("a"), 24), dropOf("a", two), {kind: doKept}, {kind: doLasts},
	})
}

// All lists of up to two versions and up to two lasts, of few kinds.
func TestAllSmallLoads(t *testing.T) {
	var kinds []api.Kept
	for _, key := range list("", "a") {
		for _, id := range []api.ID{65535, one, two} {
			for _, stamp := range []int64{-2, -1, 0, 5} {
				kinds = append(kinds, kept(stamp, key, id, "v", "", "a"))
			}
		}
	}
	var lastKinds []api.Last
	for _, key := range list("", "a") {
		for _, id := range []api.ID{0, one, two} {
			lastKinds = append(lastKinds, last(key, id))
		}
	}
	n := 0
	for _, l := range upToTwo(kinds) {
		for _, m := range upToTwo(lastKinds) {
			ok := modelLoad(l, m)
			if ok {
				n++
			}
			checkLoad(t, loading{"small lists", l, m, ok})
		}
	}
	if n < 20 {
		t.Fatalf("the test's lists: only %d can be told", n)
	}
}

func upToTwo[T any](l []T) [][]T {
	out := [][]T{nil}
	for _, x := range l {
		out = append(out, []T{x})
		for _, y := range l {
			out = append(out, []T{x, y})
		}
	}
	return out
}

// What stores tell, changed in one place: taken where a store can tell it, and refused elsewhere.
func TestLoadOfWhatIsBent(t *testing.T) {
	taken := 0
	for seed := range int64(3000) {
		c := newChance(5000 + seed)
		s := New()
		for range 1 + c.Intn(25) {
			on(t, s, c.call())
		}
		all, lasts := s.Kept(), s.Lasts()
		all, lasts = c.bent(all, lasts)
		b, err := load(t, all, lasts)
		if ok := modelLoad(all, lasts); (err == 0) != ok || err != 0 && err != errArg {
			t.Fatalf("P11.1: Load(%+v, %+v) = %d", all, lasts, err)
		}
		if b != nil {
			taken++
			keptIs(t, b, all...)
			lastsIs(t, b, lasts...)
		}
	}
	if taken == 0 || taken == 3000 {
		t.Fatalf("the test's lists: %d are taken", taken)
	}
}

func (c chance) bent(all []api.Kept, lasts []api.Last) ([]api.Kept, []api.Last) {
	if len(all) > 0 {
		k := &all[c.Intn(len(all))]
		switch c.Intn(12) {
		case 0:
			k.Stamp = c.tick()
		case 1:
			k.Stamp = -1
		case 2:
			k.Version.Key = c.key()
		case 3:
			k.Version.ID = c.id()
		case 4:
			k.Version.Keys = some(c, k.Version.Keys)
		case 5:
			k.Version.Value = long(maxBytes + c.Intn(2))
		case 6:
			i := c.Intn(len(all))
			all = slices.Delete(all, i, i+1)
		case 7:
			i, j := c.Intn(len(all)), c.Intn(len(all))
			all[i], all[j] = all[j], all[i]
		}
	}
	if len(lasts) > 0 {
		i := c.Intn(len(lasts))
		switch c.Intn(8) {
		case 0:
			lasts[i].ID = c.id()
		case 1:
			lasts[i].Key = c.key()
		case 2:
			lasts = slices.Delete(lasts, i, i+1)
		case 3:
			j := c.Intn(len(lasts))
			lasts[i], lasts[j] = lasts[j], lasts[i]
		}
	}
	return all, lasts
}

// Memory.

// What is told is new each time: writing over one answer, its room too, changes neither the store nor another answer.
func TestNewMemory(t *testing.T) {
	script := []call{
		putOf(one, says("a", "x", "b", "y"), list("a", "b"), 1), commitOf(one, 2), putOf(three, says("a", "z"), list("a", "b", "c"), 3),
		commitOf(three, 4),
	}
	s := scripted(t, script...)
	loaded := reload(t, s)
	for _, x := range []*Store{s, loaded} {
		ahead := contents(x)
		first, second := x.Kept(), x.Kept()
		latest, byID := x.Latest("a"), x.Latest("a")
		v, _ := x.ByID("a", three)
		lasts, again := x.Lasts(), x.Lasts()
		want, wantLasts := copyOf(second), slices.Clone(again)
		spoil(first)
		fill(latest.Keys, "!")
		fill(lasts, api.Last{Key: "!"})
		if !sameAllKept(second, want) || !slices.Equal(again, wantLasts) || !slices.Equal(byID.Keys, list("a", "b", "c")) || !slices.Equal(v.Keys, byID.Keys) {
			t.Fatal("P11.6: two answers share memory")
		}
		if contents(x) != ahead {
			t.Fatal("P11.6: an answer is the store's memory")
		}
	}
}

// No two lists of one answer share any: each is written over and the others looked at.
func TestListsApart(t *testing.T) {
	s := scripted(t, putOf(one, pairsOf(numbers(5), "v"), numbers(5), 1), putOf(two, pairsOf(numbers(2), "v"), numbers(5), 1))
	for _, x := range []*Store{s, reload(t, s)} {
		for i := range x.Kept() {
			all := x.Kept()
			fill(all[i].Version.Keys, "!")
			for j, k := range all {
				if j != i && !slices.Equal(k.Version.Keys, numbers(5)) {
					t.Fatalf("P11.6: the Keys of versions %d and %d share memory", i, j)
				}
			}
		}
	}
}

// What was handed in is written over later, too.
func TestNotKept(t *testing.T) {
	pairs, keys := says("a", "x", "b", "y"), list("a", "b")
	s := New()
	s.Put(one, pairs, keys, 1)
	pairs[0], keys[0], keys[1] = api.Pair{Key: "!"}, "!", "!"
	s.Commit(one, 2)
	want := versions(kept(-1, "a", one, "x", "a", "b"), kept(-1, "b", one, "y", "a", "b"))
	keptIs(t, s, want...)
	in, inLasts := copyOf(want), lasts(last("a", one), last("b", one))
	loaded, _ := Load(in, inLasts)
	spoil(in)
	fill(inLasts, last("!", 7))
	keptIs(t, loaded, want...)
	lastsIs(t, loaded, last("a", one), last("b", one))
	// One list for all versions, as a caller may have it.
	shared := list("a", "b")
	in = versions(kept(-1, "a", one, "x", shared...), kept(-1, "b", one, "y", shared...))
	loaded, _ = Load(in, nil)
	fill(shared, "!")
	keptIs(t, loaded, want...)
}

func inUse() uint64 {
	runtime.GC()
	runtime.GC()
	var m runtime.MemStats
	runtime.ReadMemStats(&m)
	return m.HeapAlloc
}

// Texts may be pieces of long ones: those must not be kept along.
func TestTextsAreNotKept(t *testing.T) {
	const count, size = 60, 1 << 20
	ahead := inUse()
	a := New()
	var all []api.Kept
	var bottoms []api.Version
	for i := range count {
		text := strings.Repeat(fmt.Sprintf("%06d", i), size/6)
		key, other, value := text[:6], text[:8], text[20:30]
		id := one + api.ID(i)
		a.Put(id, says(key, value), list(key, other), 1)
		a.Commit(id, 1)
		text = strings.Repeat(fmt.Sprintf("%06d", i), size/6)
		all = append(all, kept(-1, text[:6], id, text[6:12], text[:6], text[:8]))
	}
	b, err := Load(all, nil)
	all = nil
	if err != 0 {
		t.Fatalf("P11.1: Load: %d", err)
	}
	for i := range count {
		text := strings.Repeat(fmt.Sprintf("%06d", i), size/6)
		bottoms = append(bottoms, b.Latest(text[:6]))
		told, _ := a.ByID(text[:6], one+api.ID(i))
		bottoms = append(bottoms, told)
	}
	if grown := int64(inUse()) - int64(ahead); grown > count*size/4 {
		t.Errorf("P11.6: two stores of %d short keys hold %d bytes", count, grown)
	}
	runtime.KeepAlive(a)
	runtime.KeepAlive(b)
	runtime.KeepAlive(bottoms)
}

// The Keys of a write are kept once for all its versions, in a loaded store too: else a long write would be huge.
func TestKeysAreKeptOnce(t *testing.T) {
	keys := numbers(maxSet)
	ahead := inUse()
	a := New()
	for i := range 8 {
		a.Put(one+api.ID(i), pairsOf(keys, "v"), keys, 1)
	}
	b, err := Load(a.Kept(), a.Lasts())
	if err != 0 {
		t.Fatalf("P11.5: Load: %d", err)
	}
	// Each of them has 8192 versions of 1024 keys: with a list for each these were 128 MiB.
	if grown := int64(inUse()) - int64(ahead); grown > 32<<20 {
		t.Errorf("P11.6: the stores hold %d bytes", grown)
	}
	runtime.KeepAlive(a)
	runtime.KeepAlive(b)
}

// Of dropped versions nothing is kept: no long values, and nothing of many writes that are gone.
func TestDroppedIsGone(t *testing.T) {
	s := scripted(t, putOf(lastID, says("a", "x"), list("a"), 1), commitOf(lastID, 1))
	ahead := inUse()
	value := long(maxBytes)
	for i := range 100000 {
		id := one + api.ID(i)
		s.Put(id, says("a", value), list("a"), 1)
		if err := s.Drop("a", id); err != 0 {
			t.Fatalf("P11.1: Drop: %d", err)
		}
		if i == 1000 {
			value = ""
		}
	}
	if grown := int64(inUse()) - int64(ahead); grown > 1<<20 {
		t.Errorf("P11.3: behind the drops the store holds %d bytes more", grown)
	}
	keptIs(t, s, kept(-1, "a", lastID, "x", "a"))
}

// Great stores: a key of many versions, a write of many keys.
func TestManyVersionsOfAKey(t *testing.T) {
	const count = 100000
	s := New()
	for i := count; i > 0; i-- {
		s.Put(one+api.ID(i), says("a", ""), list("a"), 1)
	}
	for i := 1; i <= count; i++ {
		if n, err := s.Commit(one+api.ID(i), int64(i)); n != 1 || err != 0 {
			t.Fatalf("P11.1: Commit = %d, %d", n, err)
		}
	}
	for i, k := range s.Kept() {
		want := int64(i + 2)
		if i == count-1 {
			want = -1
		}
		if k.Version.ID != one+api.ID(i+1) || k.Stamp != want {
			t.Fatalf("P11.1: Kept[%d] = %+v, want the stamp %d", i, k, want)
		}
	}
	for i := 1; i < count; i++ {
		if err := s.Drop("a", one+api.ID(i)); err != 0 {
			t.Fatalf("P11.1: Drop = %d", err)
		}
	}
	keptIs(t, s, kept(-1, "a", one+count, "", "a"))
}

func TestManyKeysOfAWrite(t *testing.T) {
	keys := numbers(100 * maxSet)
	s := New()
	for i := 0; i < len(keys); i += maxSet {
		s.Put(one, pairsOf(keys[i:i+maxSet], "x"), keys[i:i+maxSet], 1)
	}
	hasIs(t, s, one, len(keys), false)
	for i := 0; i < len(keys); i += maxSet {
		s.Put(two, pairsOf(keys[i:i+maxSet], "y"), keys[i:i+maxSet], 1)
	}
	is(t, s, commitOf(two, 2), answer{n: len(keys)})
	for i, key := range keys {
		if err := s.Drop(key, one); err != 0 || i%10000 == 0 && s.Has(one) != len(keys)-i-1 {
			t.Fatalf("P11.1: Drop(%q) = %d, Has %d", key, err, s.Has(one))
		}
	}
	hasIs(t, s, one, 0, true)
	hasIs(t, s, two, len(keys), true)
	if l := s.Lasts(); len(l) != len(keys) {
		t.Fatalf("P11.1: %d lasts", len(l))
	}
}
