package retain

import (
	"fmt"
	"maps"
	"math"
	"math/rand"
	"slices"
	"strings"
	"testing"

	"rampart/api"
	"rampart/store"
)

// The chapter's numbers, not api's.
const (
	one       = api.ID(65536)  // client 0's first write
	between   = api.ID(100000) // some client's first
	two       = api.ID(131072) // client 0's second
	three     = api.ID(196608) // and its third
	lastID    = api.ID(1<<64 - 1)
	maxTick   = int64(1) << 40
	maxRetain = int64(1) << 20

	errArg = api.Errno(1)
)

// Stores, and what they hold.

func want(key string, id api.ID) api.Want { return api.Want{Key: key, ID: id} }

func put(t *testing.T, s *store.Store, id api.ID, now int64, keys ...string) {
	t.Helper()
	var pairs []api.Pair
	for _, key := range keys {
		pairs = append(pairs, api.Pair{Key: key, Value: fmt.Sprint(key, " of ", id)})
	}
	if _, err := s.Put(id, pairs, keys, now); err != 0 {
		t.Fatalf("Put(%d, %q, %d): %d", id, keys, now, err)
	}
}

func commit(t *testing.T, s *store.Store, id api.ID, now int64) {
	t.Helper()
	if _, err := s.Commit(id, now); err != 0 {
		t.Fatalf("Commit(%d, %d): %d", id, now, err)
	}
}

// written is a store in which each of the writes was put and committed at its tick.
func written(t *testing.T, writes ...write) *store.Store {
	t.Helper()
	s := store.New()
	for _, w := range writes {
		put(t, s, w.id, w.at, w.keys...)
		commit(t, s, w.id, w.at)
	}
	return s
}

type write struct {
	id   api.ID
	at   int64
	keys []string
}

func by(id api.ID, at int64, keys ...string) write { return write{id, at, keys} }

// held is all that a store tells: its versions with their stamps, its lasts, and what is asked key by key.
type held struct {
	kept   []api.Kept
	lasts  []api.Last
	latest []api.Version
}

func heldBy(s *store.Store) held {
	if s == nil {
		return held{}
	}
	h := held{kept: s.Kept(), lasts: s.Lasts()}
	for _, key := range keysOf(h.kept) {
		h.latest = append(h.latest, s.Latest(key))
	}
	return h
}

func keysOf(l []api.Kept) []string {
	var out []string
	for _, k := range l {
		if len(out) == 0 || out[len(out)-1] != k.Version.Key {
			out = append(out, k.Version.Key)
		}
	}
	return out
}

// without is what is held, but for these versions: nothing else of it is another.
func (h held) without(gone []api.Want) held {
	h.kept = slices.DeleteFunc(slices.Clone(h.kept), func(k api.Kept) bool { return slices.Contains(gone, wantOf(k)) })
	return h
}

func wantOf(k api.Kept) api.Want { return api.Want{Key: k.Version.Key, ID: k.Version.ID} }

func sameVersion(a, b api.Version) bool {
	return a.Key == b.Key && a.ID == b.ID && a.Value == b.Value && slices.Equal(a.Keys, b.Keys)
}

func same(a, b held) bool {
	return slices.Equal(a.lasts, b.lasts) && slices.EqualFunc(a.latest, b.latest, sameVersion) &&
		slices.EqualFunc(a.kept, b.kept, func(x, y api.Kept) bool { return x.Stamp == y.Stamp && sameVersion(x.Version, y.Version) })
}

// short tells a thing, but not all of a long one.
func short(x any) string {
	s := fmt.Sprintf("%+v", x)
	if len(s) > 600 {
		return s[:500] + " and on, " + fmt.Sprint(len(s)) + " signs in all"
	}
	return s
}

// spoil writes over all of an answer, its spare room too, and lengthens it.
func spoil(l []api.Want) {
	room := l[:cap(l)]
	for i := range room {
		room[i] = want("!", 77)
	}
	_ = append(l, want("!!", 78))
}

// Calls, with all that must hold of every one of them looked at.

// due is Due: it must change nothing, tell the same again, and its answer is spoilt.
func due(t *testing.T, s *store.Store, now, retain int64) ([]api.Want, api.Errno) {
	t.Helper()
	ahead := heldBy(s)
	first, err := Due(s, now, retain)
	told := slices.Clone(first)
	second, again := Due(s, now, retain)
	spoil(first)
	if again != err || !slices.Equal(second, told) {
		t.Fatalf("P12.5: Due(%d, %d) = %v, and with that written over %v", now, retain, told, second)
	}
	spoil(second)
	if behind := heldBy(s); !same(ahead, behind) {
		t.Fatalf("P12.1: Due(%d, %d) changed %s to %s", now, retain, short(ahead), short(behind))
	}
	if third, _ := Due(s, now, retain); !slices.Equal(third, told) {
		t.Fatalf("P12.5: Due(%d, %d) = %v, and with that written over %v", now, retain, told, third)
	}
	return told, err
}

// collect is Collect: it must tell what Due told ahead of it, and let just that go, and its answer is spoilt.
func collect(t *testing.T, s *store.Store, now, retain int64) ([]api.Want, api.Errno) {
	t.Helper()
	ahead := heldBy(s)
	wants, wantErr := due(t, s, now, retain)
	gone, err := Collect(s, now, retain)
	if err != wantErr || !slices.Equal(gone, wants) {
		t.Fatalf("P12.1: Collect(%d, %d) = %v, %d, and Due told %v, %d", now, retain, gone, err, wants, wantErr)
	}
	spoil(gone)
	if behind, rest := heldBy(s), ahead.without(wants); !same(behind, rest) {
		t.Fatalf("P12.3: Collect(%d, %d) = %v left %s, want %s", now, retain, wants, short(behind), short(rest))
	}
	for _, k := range ahead.kept {
		_, none := s.ByID(k.Version.Key, k.Version.ID)
		if slices.Contains(wants, wantOf(k)) != (none == api.ErrNone) {
			t.Fatalf("P12.3: Collect(%d, %d) = %v, and then ByID of %v: %d", now, retain, wants, wantOf(k), none)
		}
	}
	if again, _ := due(t, s, now, retain); len(again) != 0 {
		t.Fatalf("P12.3: Due(%d, %d) = %v behind Collect", now, retain, again)
	}
	return wants, err
}

func dueIs(t *testing.T, s *store.Store, now, retain int64, wants ...api.Want) {
	t.Helper()
	if got, err := due(t, s, now, retain); err != 0 || !slices.Equal(got, wants) {
		t.Fatalf("P12.1: Due(%d, %d) = %v, %d, want %v", now, retain, got, err, wants)
	}
}

func collectIs(t *testing.T, s *store.Store, now, retain int64, wants ...api.Want) {
	t.Helper()
	if got, err := collect(t, s, now, retain); err != 0 || !slices.Equal(got, wants) {
		t.Fatalf("P12.1: Collect(%d, %d) = %v, %d, want %v", now, retain, got, err, wants)
	}
}

func nextIs(t *testing.T, s *store.Store, retain, tick int64, is bool) {
	t.Helper()
	ahead := heldBy(s)
	got, has, err := Next(s, retain)
	if got != tick || has != is || err != 0 {
		t.Fatalf("P12.1: Next(%d) = %d, %v, %d, want %d, %v", retain, got, has, err, tick, is)
	}
	if behind := heldBy(s); !same(ahead, behind) {
		t.Fatalf("P12.1: Next(%d) changed %s to %s", retain, short(ahead), short(behind))
	}
}

// Examples and edges.

// exampleStore is that of the first example: a's version of one is old, its stamp is 3.
func exampleStore(t *testing.T) *store.Store {
	t.Helper()
	s := written(t, by(one, 0, "a"))
	put(t, s, two, 1, "a")
	commit(t, s, two, 3)
	return s
}

func TestExampleOne(t *testing.T) {
	s := exampleStore(t)
	dueIs(t, s, 12, 10)
	nextIs(t, s, 10, 13, true)
	dueIs(t, s, 13, 10, want("a", one))
	collectIs(t, s, 13, 10, want("a", one))
	dueIs(t, s, 13, 10)
	dueIs(t, s, maxTick, 0)
	nextIs(t, s, 10, 0, false)
}

func TestExampleTwo(t *testing.T) {
	s := exampleStore(t)
	collectIs(t, s, 13, 10, want("a", one))
	put(t, s, three, 13, "a")
	put(t, s, between, 5, "a")
	dueIs(t, s, 14, 10)
	nextIs(t, s, 10, 15, true)
	dueIs(t, s, 15, 10, want("a", between))
	dueIs(t, s, maxTick, 0, want("a", between))
	collectIs(t, s, 15, 10, want("a", between))
	dueIs(t, s, maxTick, 0)
	nextIs(t, s, 10, 0, false)
}

func TestExampleThree(t *testing.T) {
	s := exampleStore(t)
	for _, c := range []struct {
		s           *store.Store
		now, retain int64
	}{{nil, 0, 0}, {s, -1, 0}, {s, 1<<40 + 1, 0}, {s, 0, -1}, {s, 0, 1<<20 + 1}} {
		if l, err := due(t, c.s, c.now, c.retain); len(l) != 0 || err != errArg {
			t.Errorf("P12.1: Due(%v, %d, %d) = %v, %d", c.s != nil, c.now, c.retain, l, err)
		}
	}
	dueIs(t, s, 2, 0)
	dueIs(t, s, 3, 0, want("a", one))
}

// Wrong inputs: nothing goes, though versions are due at any right ones.
func TestArguments(t *testing.T) {
	ticks := []int64{math.MinInt64, -maxTick, -2, -1, 0, 1, maxTick - 1, maxTick, maxTick + 1, math.MaxInt64}
	retentions := []int64{math.MinInt64, -maxRetain, -2, -1, 0, 1, maxRetain - 1, maxRetain, maxRetain + 1, maxTick, math.MaxInt64}
	stores := map[string]func() *store.Store{
		"nil":      func() *store.Store { return nil },
		"empty":    store.New,
		"with old": func() *store.Store { return written(t, by(one, 0, "a", "b"), by(two, 0, "b"), by(three, 0, "b")) },
	}
	for what, fresh := range stores {
		for _, retain := range retentions {
			mayBe := what != "nil" && retain >= 0 && retain <= 1<<20
			nextRefused(t, what, fresh(), retain, !mayBe)
			for _, now := range ticks {
				s := fresh()
				_, err := collect(t, s, now, retain)
				if ok := mayBe && now >= 0 && now <= 1<<40; (err == 0) != ok || err != 0 && err != errArg {
					t.Errorf("P12.1: Collect(%s, %d, %d): %d", what, now, retain, err)
				}
				if err != 0 && what != "nil" && !same(heldBy(s), heldBy(fresh())) {
					t.Errorf("P12.1: Collect(%s, %d, %d) is refused, and changed the store", what, now, retain)
				}
			}
		}
	}
}

func nextRefused(t *testing.T, what string, s *store.Store, retain int64, refused bool) {
	t.Helper()
	tick, is, err := Next(s, retain)
	if refused && (tick != 0 || is || err != errArg) || !refused && err != 0 {
		t.Errorf("P12.1: Next(%s, %d) = %d, %v, %d", what, retain, tick, is, err)
	}
}

// A refusal tells no versions.
func TestRefusedTellsNothing(t *testing.T) {
	s := written(t, by(one, 0, "a"), by(two, 0, "a"))
	for _, c := range [][2]int64{{-1, 0}, {maxTick + 1, 0}, {9, -1}, {maxTick, maxRetain + 1}, {-1, -1}} {
		a, e := Due(s, c[0], c[1])
		b, f := Collect(s, c[0], c[1])
		if len(a)+len(b) != 0 || e != errArg || f != errArg {
			t.Errorf("P12.1: at %d with %d: Due = %v, %d, Collect = %v, %d", c[0], c[1], a, e, b, f)
		}
	}
	collectIs(t, s, 0, 0, want("a", one))
}

func TestEmpty(t *testing.T) {
	s := store.New()
	for _, retain := range []int64{0, 1, 10, maxRetain} {
		for _, now := range []int64{0, 1, 10, maxTick} {
			collectIs(t, s, now, retain)
		}
		nextIs(t, s, retain, 0, false)
	}
}

// What isn't old is never due: prepared alone, the last, prepared above the last.
func TestNoOld(t *testing.T) {
	prepared := store.New()
	put(t, prepared, one, 0, "a", "b")
	put(t, prepared, two, 0, "a")
	above := written(t, by(one, 0, "a", "b"), by(lastID-1, 0, "c"))
	put(t, above, two, 0, "a")
	put(t, above, three, 0, "a", "b")
	put(t, above, lastID, 0, "", "c")
	for _, s := range []*store.Store{prepared, written(t, by(one, 0, "a"), by(two, 0, "", "b")), above} {
		for _, retain := range []int64{0, 1, 10, maxRetain} {
			for _, now := range []int64{0, 1, 10, maxRetain - 1, maxRetain, maxTick} {
				collectIs(t, s, now, retain)
			}
			nextIs(t, s, retain, 0, false)
		}
	}
}

// One that was prepared is old, and due in its time, from the tick on at which one above it is committed.
func TestPreparedComesToBeOld(t *testing.T) {
	s := store.New()
	put(t, s, one, 0, "a", "b")
	put(t, s, two, 2, "a")
	dueIs(t, s, maxTick, 0)
	commit(t, s, two, 7)
	dueIs(t, s, 16, 10)
	nextIs(t, s, 10, 17, true)
	collectIs(t, s, 17, 10, want("a", one))
	if s.Has(one) != 1 || s.Last("b") != 0 {
		t.Errorf("P12.3: b's version of %d is prepared, and went", one)
	}
}

// Committed late, below the last: its stamp stays that of its Put.
func TestPutBelowLast(t *testing.T) {
	s := written(t, by(two, 3, "a"))
	put(t, s, one, 5, "a", "b")
	commit(t, s, one, 8)
	put(t, s, one, 9, "a", "b")
	dueIs(t, s, 14, 10)
	nextIs(t, s, 10, 15, true)
	collectIs(t, s, 15, 10, want("a", one))
	nextIs(t, s, 10, 0, false)
	put(t, s, one, 20, "a", "b")
	dueIs(t, s, 29, 10)
	nextIs(t, s, 10, 30, true)
	collectIs(t, s, 30, 10, want("a", one))
}

// At stamp and retention together it is due, and one tick ahead of that it isn't.
func TestVeryTick(t *testing.T) {
	for _, retain := range []int64{0, 1, 2, 10, maxRetain - 1, maxRetain} {
		for _, stamp := range []int64{0, 1, 9, maxRetain, maxTick - maxRetain} {
			s := written(t, by(one, 0, "a"), by(two, stamp, "a"))
			nextIs(t, s, retain, stamp+retain, true)
			if stamp+retain > 0 {
				collectIs(t, s, stamp+retain-1, retain)
				collectIs(t, s, 0, retain)
			}
			dueIs(t, s, maxTick, retain, want("a", one))
			if stamp+retain < maxTick {
				dueIs(t, s, stamp+retain+1, retain, want("a", one))
			}
			collectIs(t, s, stamp+retain, retain, want("a", one))
			nextIs(t, s, retain, 0, false)
		}
	}
}

func TestLateTicks(t *testing.T) {
	s := written(t, by(one, 0, "a"), by(two, maxTick, "a"))
	dueIs(t, s, maxTick-1, 0)
	dueIs(t, s, maxTick, 1)
	dueIs(t, s, maxTick, maxRetain)
	nextIs(t, s, 0, maxTick, true)
	nextIs(t, s, 1, maxTick+1, true)
	nextIs(t, s, maxRetain, maxTick+maxRetain, true)
	collectIs(t, s, maxTick, 1)
	collectIs(t, s, maxTick, 0, want("a", one))
}

// Several keys and IDs: by key in the order of bytes, then by ID, whatever their stamps and the order in which they came.
func TestOrder(t *testing.T) {
	s := store.New()
	ids := []api.ID{1<<63 + 1, one, 1<<63 - 1, two, lastID - 1}
	keys := []string{"", "\x00", "A", "a", "a\x00", "aa", "b", "\x7f", "\x80", "\xff", "\xff\x00"}
	commitAt := int64(20)
	for i, id := range ids {
		for j := range keys {
			put(t, s, id, int64(i), keys[len(keys)-1-j])
		}
	}
	put(t, s, lastID, 6, keys...)
	commit(t, s, lastID, commitAt)
	put(t, s, one+1, 7, keys...)
	var all, late []api.Want
	for _, key := range keys {
		for _, id := range []api.ID{one, one + 1, two, 1<<63 - 1, 1<<63 + 1, lastID - 1} {
			all = append(all, want(key, id))
		}
		late = append(late, want(key, one+1))
	}
	dueIs(t, s, commitAt, 0, all...)
	nextIs(t, s, 3, 10, true)
	collectIs(t, s, commitAt, commitAt-7, late...)
	nextIs(t, s, 3, commitAt+3, true)
	all = slices.DeleteFunc(all, func(w api.Want) bool { return w.ID == one+1 })
	collectIs(t, s, commitAt, 0, all...)
	if got := s.Kept(); len(got) != len(keys) {
		t.Errorf("P12.3: %d versions are left, want the last of each of %d keys", len(got), len(keys))
	}
}

// Stamps that fall while IDs rise, and Next by the least of them, wherever it stands.
func TestStampsInAnyOrder(t *testing.T) {
	stamps := []int64{5, 2, 9, 0, 7}
	for turn := range stamps {
		var kept []api.Kept
		for i := range stamps {
			v := api.Version{Key: "k", ID: one * api.ID(i+1), Value: "x", Keys: []string{"k"}}
			kept = append(kept, api.Kept{Version: v, Stamp: stamps[(i+turn)%len(stamps)]})
		}
		last := one * 10
		kept = append(kept, api.Kept{Version: api.Version{Key: "k", ID: last, Keys: []string{"k"}}, Stamp: -1})
		s, err := store.Load(kept, []api.Last{{Key: "k", ID: last}})
		if err != 0 {
			t.Fatalf("Load: %d", err)
		}
		for now := range int64(12) {
			nextIs(t, s, 4, 4, true)
			var wants []api.Want
			for _, k := range kept[:len(stamps)] {
				if k.Stamp+4 <= now {
					wants = append(wants, wantOf(k))
				}
			}
			dueIs(t, s, now, 4, wants...)
		}
		collectIs(t, s, 4, 4, wantOf(kept[(3-turn+len(stamps))%len(stamps)]))
		nextIs(t, s, 4, 6, true)
	}
}

func TestGreatStore(t *testing.T) {
	var keys []string
	for i := range 1024 {
		keys = append(keys, fmt.Sprintf("%04d", i))
	}
	s := written(t, by(one, 0, keys...), by(two, 1, keys[:1000]...), by(three, 2, keys[:500]...))
	var early, late []api.Want
	for i, key := range keys {
		if i < 1000 {
			early = append(early, want(key, one))
		}
		if i < 500 {
			late = append(late, want(key, two))
		}
	}
	for _, c := range []struct {
		now   int64
		wants []api.Want
	}{{maxRetain, nil}, {maxRetain + 1, early}, {maxRetain + 2, late}} {
		if got, err := Collect(s, c.now, maxRetain); err != 0 || !slices.Equal(got, c.wants) {
			t.Fatalf("P12.1: Collect at %d: %d versions, %d, want %d", c.now, len(got), err, len(c.wants))
		}
	}
	if len(s.Kept()) != 1024 || s.Has(one) != 24 || s.Has(two) != 500 || s.Has(three) != 500 {
		t.Errorf("P12.3: %d versions are left", len(s.Kept()))
	}
}

// Two stores have nothing in common: nothing is kept from call to call.
func TestTwoStores(t *testing.T) {
	a, b := exampleStore(t), exampleStore(t)
	collectIs(t, a, 13, 10, want("a", one))
	dueIs(t, b, 13, 10, want("a", one))
	nextIs(t, b, 10, 13, true)
	dueIs(t, a, 13, 10)
	put(t, a, one, 20, "a")
	dueIs(t, a, 20, 0, want("a", one))
	collectIs(t, b, 3, 0, want("a", one))
	dueIs(t, a, 20, 0, want("a", one))
}

// Memory: an answer that is written over, or lengthened, changes neither the store nor any other answer.
func TestMemory(t *testing.T) {
	s := written(t, by(one, 0, "a", "b", "c"), by(two, 1, "a", "b", "c"), by(three, 2, "a", "b"))
	all := []api.Want{want("a", one), want("a", two), want("b", one), want("b", two), want("c", one)}
	first, _ := Due(s, 9, 0)
	second, _ := Due(s, 9, 0)
	gone, _ := Collect(s, 9, 0)
	rest := heldBy(s)
	for i, l := range [][]api.Want{first, second, gone} {
		if !slices.Equal(l, all) {
			t.Fatalf("P12.5: answer %d is %v, want %v", i, l, all)
		}
		spoil(l)
	}
	if !same(rest, heldBy(s)) {
		t.Errorf("P12.5: with what Collect told written over the store has %s, want %s", short(heldBy(s)), short(rest))
	}
	dueIs(t, s, 9, 0)
	put(t, s, one, 9, "a", "b", "c")
	dueIs(t, s, 9, 0, want("a", one), want("b", one), want("c", one))
}

// The model: the words of chapters 11 and 12, done to versions that stand in a map, each with the tick from which it is old.

type model struct {
	since map[api.Want]int64 // -1: it isn't old
	last  map[string]api.ID
}

func newModel() *model { return &model{since: map[api.Want]int64{}, last: map[string]api.ID{}} }

func (m *model) put(id api.ID, now int64, keys ...string) {
	for _, key := range keys {
		w := want(key, id)
		if _, has := m.since[w]; has {
			continue
		}
		m.since[w] = -1
		if id < m.last[key] {
			m.since[w] = now
		}
	}
}

func (m *model) commit(id api.ID, now int64) {
	for _, w := range slices.Collect(maps.Keys(m.since)) {
		if w.ID != id || m.last[w.Key] >= id {
			continue
		}
		m.last[w.Key] = id
		for other, stamp := range m.since {
			if other.Key == w.Key && other.ID < id && stamp == -1 {
				m.since[other] = now
			}
		}
	}
}

// due is what has been old for so many ticks.
func (m *model) due(now, retain int64) []api.Want {
	var out []api.Want
	for w, stamp := range m.since {
		if w.ID < m.last[w.Key] && now-stamp >= retain {
			out = append(out, w)
		}
	}
	slices.SortFunc(out, func(a, b api.Want) int {
		if a.Key != b.Key {
			return strings.Compare(a.Key, b.Key)
		}
		if a.ID < b.ID {
			return -1
		}
		return 1
	})
	return out
}

// next is the least tick at which something is due, found by asking tick by tick.
func (m *model) next(retain, until int64) (int64, bool) {
	for now := range until {
		if len(m.due(now, retain)) > 0 {
			return now, true
		}
	}
	return 0, false
}

func (m *model) drop(gone []api.Want) {
	for _, w := range gone {
		delete(m.since, w)
	}
}

// Scripts: puts, commits and ticks, all at the tick that it is.

type step struct {
	id   api.ID   // 0: a tick goes by
	keys []string // none: a commit
}

func (c step) String() string {
	if c.id == 0 {
		return "tick"
	}
	if len(c.keys) == 0 {
		return fmt.Sprintf("commit %d", c.id)
	}
	return fmt.Sprintf("put %d %q", c.id, c.keys)
}

// world is a store and the model beside it, at a tick.
type world struct {
	s      *store.Store
	m      *model
	now    int64
	retain int64
}

func newWorld(retain int64) *world { return &world{store.New(), newModel(), 0, retain} }

// write does a put or a commit to the store and to the model.
func (w *world) write(t *testing.T, c step) {
	t.Helper()
	if len(c.keys) == 0 {
		commit(t, w.s, c.id, w.now)
		w.m.commit(c.id, w.now)
		return
	}
	put(t, w.s, c.id, w.now, c.keys...)
	w.m.put(c.id, w.now, c.keys...)
}

// tick lets one go by, with Collect behind it: what goes must have been old for retain ticks, and no longer but for retention 0.
func (w *world) tick(t *testing.T, script []step) {
	t.Helper()
	w.now++
	wants := w.m.due(w.now, w.retain)
	for _, gone := range wants {
		if age := w.now - w.m.since[gone]; age != max(w.retain, 1) {
			t.Fatalf("the model: %v goes at the age of %d ticks with retention %d", gone, age, w.retain)
		}
	}
	gone, err := Collect(w.s, w.now, w.retain)
	if err != 0 || !slices.Equal(gone, wants) {
		t.Fatalf("P12.2: at tick %d with retention %d: Collect = %v, %d, want %v, behind %v", w.now, w.retain, gone, err, wants, script)
	}
	spoil(gone)
	w.m.drop(wants)
	w.holds(t, script)
}

// holds looks whether the store has just the model's versions and lasts, and what Due and Next tell of them.
func (w *world) holds(t *testing.T, script []step) {
	t.Helper()
	kept := w.s.Kept()
	for _, k := range kept {
		if since, has := w.m.since[wantOf(k)]; !has || since != k.Stamp {
			t.Fatalf("P12.2: at tick %d with retention %d: %v is there with stamp %d, the model says %v, %d, behind %v",
				w.now, w.retain, wantOf(k), k.Stamp, has, since, script)
		}
		if key := k.Version.Key; w.s.Last(key) != w.m.last[key] || w.s.Latest(key).ID != w.m.last[key] {
			t.Fatalf("P12.3: at tick %d the last of %q is %d, want %d, behind %v", w.now, key, w.s.Last(key), w.m.last[key], script)
		}
	}
	if len(kept) != len(w.m.since) {
		t.Fatalf("P12.2: at tick %d with retention %d there are %d versions, want %d, behind %v", w.now, w.retain, len(kept), len(w.m.since), script)
	}
	for _, retain := range []int64{0, 1, w.retain} {
		got, err := Due(w.s, w.now, retain)
		if wants := w.m.due(w.now, retain); err != 0 || !slices.Equal(got, wants) {
			t.Fatalf("P12.1: Due(%d, %d) = %v, %d, want %v, behind %v", w.now, retain, got, err, wants, script)
		}
		tick, is, err := Next(w.s, retain)
		if wantTick, wantIs := w.m.next(retain, w.now+retain+1); err != 0 || tick != wantTick || is != wantIs {
			t.Fatalf("P12.1: Next(%d) = %d, %v, %d, want %d, %v, behind %v", retain, tick, is, err, wantTick, wantIs, script)
		}
	}
}

func (w *world) do(t *testing.T, script []step) {
	t.Helper()
	for i, c := range script {
		if c.id == 0 {
			w.tick(t, script[:i])
			continue
		}
		w.write(t, c)
	}
	w.holds(t, script)
	// What is old by now goes in its time.
	for range w.retain + 2 {
		w.tick(t, script)
	}
	if _, is, _ := Next(w.s, w.retain); is {
		t.Fatalf("P12.2: with retention %d something old is left, behind %v", w.retain, script)
	}
}

// scripts calls f with every script of n steps.
func scripts(steps []step, n int, f func(script []step)) {
	script := make([]step, n)
	var fill func(at int)
	fill = func(at int) {
		if at == n {
			f(slices.Clone(script))
			return
		}
		for _, c := range steps {
			script[at] = c
			fill(at + 1)
		}
	}
	fill(0)
}

func TestTicks(t *testing.T) {
	steps := []step{{}, {one, []string{"a"}}, {two, []string{"a", "b"}}, {three, []string{"a"}}, {two, nil}, {three, nil}}
	for n := range 6 {
		scripts(steps, n, func(script []step) {
			for _, retain := range []int64{0, 1, 3} {
				newWorld(retain).do(t, script)
			}
		})
	}
}

// chance is scripts of chance, the same for the same seed.
type chance struct{ *rand.Rand }

func newChance(seed int64) chance { return chance{rand.New(rand.NewSource(seed))} }

func (c chance) keys() []string {
	var out []string
	for _, key := range []string{"", "\x00", "a", "aa", "b", "\xff"} {
		if c.Intn(3) == 0 {
			out = append(out, key)
		}
	}
	if len(out) == 0 {
		out = []string{"a"}
	}
	return out
}

func (c chance) id() api.ID {
	ids := []api.ID{one, one + 1, between, two, two + 3, three, 1 << 40, 1<<63 - 1, 1 << 63, lastID}
	return ids[c.Intn(len(ids))]
}

func (c chance) script(n int) []step {
	var out []step
	for range n {
		switch c.Intn(4) {
		case 0:
			out = append(out, step{})
		case 1:
			out = append(out, step{id: c.id()})
		default:
			out = append(out, step{c.id(), c.keys()})
		}
	}
	return out
}

func TestTicksByChance(t *testing.T) {
	for seed := range int64(150) {
		c := newChance(seed)
		newWorld(c.Int63n(12)).do(t, c.script(20+c.Intn(120)))
	}
}

// Not too early, not too late, told plainly: each version goes behind just one tick.
func TestGoesBehindItsTick(t *testing.T) {
	for _, retain := range []int64{0, 1, 2, 10, 50} {
		s := written(t, by(one, 0, "a", "b"))
		for now := int64(1); now <= 80; now++ {
			gone, err := Collect(s, now, retain)
			var wants []api.Want
			if now == 5+max(retain, 1) {
				wants = append(wants, want("a", one))
			}
			if now == 7+max(retain, 1) {
				wants = append(wants, want("a", between))
			}
			if err != 0 || !slices.Equal(gone, wants) {
				t.Fatalf("P12.2: retention %d, tick %d: %v, %d, want %v", retain, now, gone, err, wants)
			}
			switch now {
			case 3:
				put(t, s, two, now, "a")
			case 5:
				commit(t, s, two, now)
			case 6:
				put(t, s, three, now, "a", "b")
			case 7:
				put(t, s, between, now, "a", "c")
			}
		}
		if s.Has(one) != 1 || s.Has(between) != 1 || s.Has(two) != 1 || s.Has(three) != 2 {
			t.Errorf("P12.2: retention %d: something went that isn't old", retain)
		}
	}
}

// What counts stays, and steps: on stores of chance, with no Collect ahead.

// grown is a store behind a script without Collect, and its tick.
func grown(t *testing.T, script []step, retain int64) *world {
	t.Helper()
	w := newWorld(retain)
	for _, c := range script {
		if c.id == 0 {
			w.now++
			continue
		}
		w.write(t, c)
	}
	return w
}

func TestWhatCountsStays(t *testing.T) {
	for seed := range int64(60) {
		c := newChance(1000 + seed)
		script, retain := c.script(80), c.Int63n(15)
		for now := range int64(40) {
			w := grown(t, script, retain)
			wants := w.m.due(now, retain)
			if gone, err := collect(t, w.s, now, retain); err != 0 || !slices.Equal(gone, wants) {
				t.Fatalf("P12.1: seed %d: Collect(%d, %d) = %v, %d, want %v", seed, now, retain, gone, err, wants)
			}
		}
	}
}

func TestInSteps(t *testing.T) {
	for seed := range int64(60) {
		c := newChance(2000 + seed)
		script, retain := c.script(80), c.Int63n(15)
		every, some, once := grown(t, script, retain), grown(t, script, retain), grown(t, script, retain)
		steps := 0
		for now := range once.now + retain + 2 {
			gone, _ := Collect(every.s, now, retain)
			steps += len(gone)
			if c.Intn(3) == 0 {
				Collect(some.s, now, retain)
			}
			// A store of its own for each tick: that one alone.
			alone := grown(t, script, retain)
			all, err := Collect(alone.s, now, retain)
			if err != 0 || len(all) != steps || !same(heldBy(every.s), heldBy(alone.s)) {
				t.Fatalf("P12.4: seed %d: up to tick %d in steps %d went and there are %s; at once %d, and %s",
					seed, now, steps, short(heldBy(every.s)), len(all), short(heldBy(alone.s)))
			}
		}
		now := once.now + retain + 1
		Collect(some.s, now, retain)
		Collect(once.s, now, retain)
		if !same(heldBy(some.s), heldBy(once.s)) || !same(heldBy(every.s), heldBy(once.s)) {
			t.Fatalf("P12.4: seed %d: in some steps there are %s, at once %s", seed, short(heldBy(some.s)), short(heldBy(once.s)))
		}
	}
}

// A loaded store is collected as the one that it was told from.
func TestLoaded(t *testing.T) {
	for seed := range int64(60) {
		c := newChance(3000 + seed)
		w := grown(t, c.script(80), c.Int63n(15))
		other, err := store.Load(w.s.Kept(), w.s.Lasts())
		if err != 0 {
			t.Fatalf("Load: %d", err)
		}
		for now := range w.now + w.retain + 2 {
			a, _ := collect(t, w.s, now, w.retain)
			b, _ := collect(t, other, now, w.retain)
			if !slices.Equal(a, b) || !same(heldBy(w.s), heldBy(other)) {
				t.Fatalf("P12.1: seed %d: at tick %d: %v, and of the loaded store %v", seed, now, a, b)
			}
		}
	}
}
