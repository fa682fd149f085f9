package judge_test

import (
	"fmt"
	"runtime"
	"slices"
	"strings"
	"sync"
	"testing"

	"rampart/api"
	"rampart/history"
	"rampart/judge"
)

// counts are how many findings of each rule there were.
type counts [5]int

func (c *counts) add(l []judge.Finding) {
	for _, f := range l {
		c[f.Rule]++
	}
}

func (c *counts) atLeast(t *testing.T, n int) {
	t.Helper()
	for rule := ruForged; rule <= ruLost; rule++ {
		if c[rule] < n {
			t.Errorf("only %d findings of rule %d", c[rule], rule)
		}
	}
}

func TestAllShortLists(t *testing.T) {
	a, other := api.Version{Key: "a", ID: 65536, Value: "1", Keys: []string{"a", "b"}}, api.Version{Key: "a", ID: 65536, Value: "2", Keys: []string{"a", "b"}}
	things := []api.Event{
		write(0, 1, 65536, api.Pair{Key: "b", Value: "1"}, api.Pair{Key: "a", Value: "1"}), write(0, 1, 0), write(0, 2, 131072, api.Pair{Key: "a", Value: "2"}),
		answer(0, 1, rsOK, 65536), answer(0, 1, rsAborted, 65536), answer(0, 2, rsOK, 131072), answer(0, 1, rsInvalid, 0),
		read(1, 1, "a"), read(1, 1, "b", "a"), answer(1, 1, rsOK, 0, a), answer(1, 1, rsOK, 0, other), answer(1, 1, rsOK, 0, api.Version{Key: "b"}, a), answer(1, 1, rsOK, 0, api.Version{Key: "a"}),
	}
	found := 0
	upTo(things, 4, func(h []api.Event) { found += len(judges(t, h)) })
	if found < 20 {
		t.Errorf("only %d findings", found)
	}
}

// threads calls f with every order of the events of some threads in which each thread's own keep theirs.
func threads(l [][]api.Event, f func([]api.Event)) {
	var grow func(h []api.Event, at []int)
	grow = func(h []api.Event, at []int) {
		ended := true
		for i := range l {
			if at[i] < len(l[i]) {
				ended = false
				next := slices.Clone(at)
				next[i]++
				grow(append(h[:len(h):len(h)], l[i][at[i]]), next)
			}
		}
		if ended {
			f(h)
		}
	}
	grow(nil, make([]int, len(l)))
}

// Two writes and a read: every order of their events, each with every result, and many things told.
func TestAllOrders(t *testing.T) {
	one, two := write(0, 1, 65536, api.Pair{Key: "a", Value: "1"}, api.Pair{Key: "b", Value: "1"}), write(1, 1, 65537, api.Pair{Key: "b", Value: "2"}, api.Pair{Key: "c", Value: "2"})
	ends := func(w api.Event) [][]api.Event {
		l := [][]api.Event{{w}}
		for _, result := range []int{rsOK, rsAborted, rsUnknown} {
			l = append(l, []api.Event{w, answer(w.Client, w.Txn, result, w.ID)})
		}
		return l
	}
	of := func(w api.Event, key, value string) api.Version {
		return api.Version{Key: key, ID: w.ID, Value: value, Keys: keysOf(w)}
	}
	forB := []api.Version{{Key: "b"}, of(one, "b", "1"), of(two, "b", "2"), of(two, "b", "1"), {Key: "b", ID: 65537, Value: "2", Keys: []string{"b"}}, {Key: "b", ID: 65538, Value: "2", Keys: []string{"b", "c"}}}
	forA := []api.Version{{Key: "a"}, of(one, "a", "1"), of(two, "a", "2")}
	var c counts
	for _, first := range ends(one) {
		for _, second := range ends(two) {
			for _, b := range forB {
				for _, a := range forA {
					threads([][]api.Event{first, second, {read(2, 1, "b", "a"), answer(2, 1, rsOK, 0, b, a)}}, func(h []api.Event) { c.add(judges(t, h)) })
				}
			}
		}
	}
	c.atLeast(t, 500)
}

func TestChanceHistories(t *testing.T) {
	var c counts
	proper, not := 0, 0
	for seed := range 4000 {
		m := newMaker(seed)
		h := m.any(m.Intn(40))
		found := judges(t, h)
		c.add(found)
		for _, f := range found {
			tells(t, f, modelTell(f))
		}
		for range 3 {
			bent := m.bendList(h)
			judges(t, bent)
			if history.Proper(bent) {
				proper++
			} else {
				not++
			}
		}
	}
	c.atLeast(t, 1000)
	if proper < 500 || not < 500 {
		t.Errorf("%d bent histories are proper, %d not: too few", proper, not)
	}
}

// bendList changes a history a little, in ways that may leave it proper.
func (m *maker) bendList(h []api.Event) []api.Event {
	if len(h) == 0 {
		return []api.Event{{}}
	}
	h = slices.Clone(h)
	at, to := m.Intn(len(h)), m.Intn(len(h))
	switch m.Intn(6) {
	case 0:
		return slices.Delete(h, at, at+1)
	case 1:
		h[at], h[to] = h[to], h[at]
	case 2:
		return slices.Insert(h, to, h[at])
	case 3:
		h[at].Answer.Result = m.Intn(8)
	case 4:
		h[at].ID, h[at].Answer.ID = h[to].ID, h[to].Answer.ID
	case 5:
		h[at].Kind, h[at].Client, h[at].Txn = m.Intn(5), pick(m.chance, -1, 0, 1, 2, 16, h[to].Client), pick(m.chance, -1, 0, 1, h[to].Txn)
	}
	return h
}

func TestOneAfterAnother(t *testing.T) {
	toldSome := 0
	for seed := range 3000 {
		h := makeSerial(seed, seed%120)
		found, err := onJudge(t, h)
		if len(found) != 0 || err != ok {
			t.Fatalf("P24.2: Judge of %s is %q, %d", show(h), lines(found), err)
		}
		judges(t, h)
		toldSome += len(places(h))
	}
	if toldSome < 5000 {
		t.Errorf("only %d versions are told that aren't bottom", toldSome)
	}
}

// place is where a version stands: in which answer, and which of it.
type place struct{ at, n int }

// places are those of all told versions that aren't bottom.
func places(h []api.Event) []place {
	var l []place
	for at, e := range h {
		for n, v := range e.Answer.Versions {
			if v.ID != 0 {
				l = append(l, place{at, n})
			}
		}
	}
	return l
}

// retold is a history with another version in a place.
func retold(h []api.Event, p place, v api.Version) []api.Event {
	return with(h, p.at, func(e *api.Event) { e.Answer.Versions[p.n] = v })
}

// writeOf is the write of a name that is a write's.
func writeOf(h []api.Event, id api.ID) (at int) {
	return slices.IndexFunc(h, func(e api.Event) bool { return isWrite(e) && e.ID == id })
}

// forEachTold calls f with chance histories without findings and a chance version told in each.
func forEachTold(n int, f func(c chance, h []api.Event, p place, v api.Version)) {
	for seed := range n {
		h := makeSerial(seed, 100)
		c := newChance(seed)
		if l := places(h); len(l) > 0 {
			p := pick(c, l...)
			f(c, h, p, h[p.at].Answer.Versions[p.n])
		}
	}
}

// changed are ways to change a version so that it is no more what its write wrote, whatever that is.
var changed = []func(v *api.Version){
	func(v *api.Version) { v.Value += "x" },
	func(v *api.Version) { v.Value = "x" + v.Value },
	func(v *api.Version) { v.Value = "\x00" },
	func(v *api.Version) { v.Value = "1\x00" },
	func(v *api.Version) { v.Keys = v.Keys[1:] },
	func(v *api.Version) { v.Keys = v.Keys[:len(v.Keys)-1] },
	func(v *api.Version) { v.Keys = nil },
	func(v *api.Version) { v.Keys = append(v.Keys, "zz") },
	func(v *api.Version) { v.Keys = append(v.Keys, v.Keys[0]) },
	func(v *api.Version) { v.Keys = append([]string{v.Keys[0]}, v.Keys...) },
	func(v *api.Version) { v.Keys[0] += "\x01" },
	func(v *api.Version) { v.Keys[len(v.Keys)-1] += "\x00\x00" },
	func(v *api.Version) { slices.Reverse(v.Keys); v.Keys = append(v.Keys, "") },
}

func TestOneThingForged(t *testing.T) {
	tried := 0
	forEachTold(1000, func(c chance, h []api.Event, p place, v api.Version) {
		for _, change := range changed {
			other := roomy([]api.Version{v})[0]
			change(&other)
			bent := retold(h, p, other)
			want := []judge.Finding{{At: p.at, Rule: ruForged, Key: v.Key, ID: v.ID}}
			if found, err := onJudge(t, bent); !slices.Equal(found, want) || err != ok {
				t.Fatalf("P24.3: with version %v of %s told as %q, Judge is %q, %d; it should be %q", p, show(h), fmt.Sprint(other), lines(found), err, lines(want))
			}
			tried++
		}
	})
	if tried < 5000 {
		t.Errorf("only %d versions were changed", tried)
	}
}

func TestOneWriteAborted(t *testing.T) {
	ahead, late := 0, 0
	forEachTold(3000, func(c chance, h []api.Event, p place, v api.Version) {
		w := writeOf(h, v.ID)
		end := answerOf(h, w)
		bent := roomy(h)
		if end < 0 {
			late++
			bent = append(bent, answer(h[w].Client, h[w].Txn, rsAborted, v.ID))
		} else {
			ahead++
			bent[end].Answer.Result = rsAborted
		}
		var want []judge.Finding
		for _, o := range places(h) {
			if u := h[o.at].Answer.Versions[o.n]; u.ID == v.ID {
				want = append(want, judge.Finding{At: o.at, Rule: ruAborted, Key: u.Key, ID: v.ID})
			}
		}
		if found, err := onJudge(t, bent); !slices.Equal(found, want) || err != ok {
			t.Fatalf("P24.3: with the write %d aborted Judge of %s is %q, %d; it should be %q", v.ID, show(bent), lines(found), err, lines(want))
		}
	})
	if ahead < 200 || late < 100 {
		t.Errorf("only %d writes had an answer, %d had none", ahead, late)
	}
}

// below are versions of a key below a name, as the writes ahead of a place made them; bottom too.
func below(h []api.Event, at int, key string, id api.ID) []api.Version {
	l := []api.Version{{Key: key}}
	for _, w := range h[:at] {
		if !isWrite(w) || w.ID >= id {
			continue
		}
		for _, p := range w.Pairs {
			if p.Key == key {
				l = append(l, api.Version{Key: key, ID: w.ID, Value: p.Value, Keys: keysOf(w)})
			}
		}
	}
	return l
}

// ofRule are the findings of a rule.
func ofRule(l []judge.Finding, rule int) []judge.Finding {
	return slices.DeleteFunc(slices.Clone(l), func(f judge.Finding) bool { return f.Rule != rule })
}

func TestOneVersionTorn(t *testing.T) {
	tried := 0
	forEachTold(3000, func(c chance, h []api.Event, p place, v api.Version) {
		for n, u := range h[p.at].Answer.Versions {
			if n == p.n || u.ID < v.ID || !wrote(h[writeOf(h, u.ID)], v.Key) {
				continue
			}
			tried++
			other := pick(c, below(h, p.at, v.Key, v.ID)...)
			bent := retold(h, p, other)
			found, err := onJudge(t, bent)
			got := slices.DeleteFunc(ofRule(found, ruTorn), func(f judge.Finding) bool { return f.Key != v.Key || f.ID != other.ID })
			// A key that is told twice is torn by the name that it has in the other place.
			if len(got) == 0 || got[0].At != p.at || got[0].Other < u.ID || err != ok {
				t.Fatalf("P24.3: with %q in the place %v of %s Judge is %q, %d; it should find it torn by %d", fmt.Sprint(other), p, show(h), lines(found), err, u.ID)
			}
			judges(t, bent)
		}
	})
	if tried < 300 {
		t.Errorf("only %d versions were put in the place of another", tried)
	}
}

func TestOneVersionLost(t *testing.T) {
	tried := 0
	forEachTold(3000, func(c chance, h []api.Event, p place, v api.Version) {
		asked, top := requestOf(h, p.at), api.ID(0)
		for at, e := range h[:asked] {
			if e.Kind == evAnswer && e.Answer.Result == rsOK && e.Answer.ID != 0 && wrote(h[requestOf(h, at)], v.Key) {
				top = max(top, e.Answer.ID)
			}
		}
		if top == 0 {
			return
		}
		tried++
		other := pick(c, below(h, p.at, v.Key, top)...)
		found, err := onJudge(t, retold(h, p, other))
		want := []judge.Finding{{At: p.at, Rule: ruLost, Key: v.Key, ID: other.ID, Other: top}}
		if !slices.Equal(ofRule(found, ruLost), want) || err != ok || len(ofRule(found, ruForged)) != 0 {
			t.Fatalf("P24.3: with %q in the place %v of %s Judge is %q, %d; it should find %q", fmt.Sprint(other), p, show(h), lines(found), err, lines(want))
		}
	})
	if tried < 200 {
		t.Errorf("only %d versions were put in the place of a later one", tried)
	}
}

func TestBeginnings(t *testing.T) {
	missing, kept := 0, 0
	for seed := range 1000 {
		m := newMaker(seed)
		h := m.any(m.Intn(50))
		all, err := onJudge(t, h)
		if err != ok {
			t.Fatalf("P24.1: Judge of %s is %d", show(h), err)
		}
		for n := range len(h) + 1 {
			if !history.Proper(h[:n]) {
				refused(t, h[:n])
				continue
			}
			// Aborted is missing just where the write's answer isn't there yet.
			want := slices.DeleteFunc(slices.Clone(all), func(f judge.Finding) bool {
				gone := f.At < n && f.Rule == ruAborted && answerOf(h, writeOf(h, f.ID)) >= n
				if gone {
					missing++
				}
				return f.At >= n || gone
			})
			kept += len(want)
			if found, err := onJudge(t, h[:n]); !slices.Equal(found, want) || err != ok {
				t.Fatalf("P24.4: the first %d of %s have the findings %q, %d; they should have %q", n, show(h), lines(found), err, lines(want))
			}
		}
	}
	if missing < 200 || kept < 10000 {
		t.Errorf("%d findings were missing in beginnings, %d were there: too few", missing, kept)
	}
}

// many is a history with findings of each rule.
const many = "0 1 write 65536 a=1; 1 1 write 65537 a=2 b=2; 0 1 aborted 65536; 1 1 ok 65537; 2 1 read a b; 2 1 ok 0 a=65536=9=a b=65537=2=a=b; 2 2 read a; 2 2 ok 0 a=0"

func TestMemory(t *testing.T) {
	h := events(t, many)
	want, _ := modelJudge(h)
	var c counts
	c.add(want)
	c.atLeast(t, 1)
	// What was told stays, whatever is written over: what was handed in, what another call told.
	handed := roomy(h)
	first, _ := judge.Judge(handed)
	second, _ := judge.Judge(handed)
	spoil(handed)
	if !slices.Equal(first, want) || !slices.Equal(second, want) {
		t.Errorf("P24.5: what was told changed with what was handed in: %q, %q", lines(first), lines(second))
	}
	spoil(first)
	if third, _ := judge.Judge(h); !slices.Equal(second, want) || !slices.Equal(third, want) {
		t.Errorf("P24.5: what was told changed with what another call told: %q, %q", lines(second), lines(third))
	}
	// What was handed in stays, whatever is written over what was told.
	handed = roomy(h)
	told, _ := judge.Judge(handed)
	spoil(told)
	if !same(handed, roomy(h)) {
		t.Errorf("P24.5: what was handed in changed with what was told: %s", show(handed))
	}
	// One backing list behind many events, as a caller may have it.
	pairs := []api.Pair{{Key: "c", Value: "1"}, {Key: "b", Value: "1"}, {Key: "a", Value: "1"}}
	keys := []string{"c", "b", "a"}
	shared := []api.Event{write(0, 1, 65536, pairs[:2]...), write(1, 1, 65537, pairs...), read(2, 1, keys...), read(2, 2, keys[:1]...)}
	judges(t, shared)
	judge.Judge(shared)
	if fmt.Sprint(pairs) != "[{c 1} {b 1} {a 1}]" || fmt.Sprint(keys) != "[c b a]" {
		t.Errorf("P24.5: Judge changed what was handed in: %v, %v", pairs, keys)
	}
}

func inUse() uint64 {
	var m runtime.MemStats
	runtime.GC()
	runtime.GC()
	runtime.ReadMemStats(&m)
	return m.HeapAlloc
}

// What is told doesn't hold on to the memory of what was handed in.
func TestPiecesAreNotKept(t *testing.T) {
	const size = 1 << 20
	var kept [][]judge.Finding
	var texts []string
	before := inUse()
	for i := range 32 {
		key := (fmt.Sprint("key", i%10) + strings.Repeat("y", size))[:4]
		found, err := judge.Judge([]api.Event{read(0, 1, key), answer(0, 1, rsOK, 0, api.Version{Key: key, ID: 5})})
		if len(found) != 1 || err != ok {
			t.Fatalf("P24.1: Judge finds %q, %d", lines(found), err)
		}
		kept = append(kept, found)
		texts = append(texts, judge.Tell(judge.Finding{Rule: 1, Key: key}))
	}
	if now := inUse(); now > before+4*size {
		t.Errorf("P24.5: what was told keeps %d bytes of what was handed in", now-before)
	}
	if lines(kept[31]) != "1 forged 6b657931 5 0" || texts[31] != "0 forged 6b657931 0 0" {
		t.Errorf("P24.1: Judge finds %q, told as %q", lines(kept[31]), texts[31])
	}
}

// Nothing is kept from call to call: neither is what was called ahead, nor is memory.
func TestNothingIsKept(t *testing.T) {
	h := events(t, many)
	clean := events(t, "1 1 read a b; 1 1 ok 0 a=0 b=0")
	for n := range len(h) + 1 {
		judges(t, h[:n])
		judges(t, clean)
		judge.Judge(append(slices.Clone(h), api.Event{}))
		judges(t, clean)
	}
	before := inUse()
	for range 300 {
		var big []api.Event
		for i := range 1000 {
			big = append(big, write(0, i+1, api.ID(i+1)*65536, api.Pair{Key: fmt.Sprint(i), Value: "1"}), answer(0, i+1, rsOK, api.ID(i+1)*65536))
		}
		judge.Judge(big)
	}
	if now := inUse(); now > before+1<<20 {
		t.Errorf("P24.5: %d bytes are kept behind the calls", now-before)
	}
}

func TestManyAtOnce(t *testing.T) {
	h := events(t, many)
	want, _ := modelJudge(h)
	var wait sync.WaitGroup
	for range 16 {
		wait.Go(func() {
			for range 200 {
				found, err := judge.Judge(h)
				if !slices.Equal(found, want) || err != ok || judge.Tell(found[0]) != modelTell(want[0]) {
					t.Errorf("P24.1: a call among others tells %q, %d", lines(found), err)
					return
				}
			}
		})
	}
	wait.Wait()
}

// Long histories and wide ones: each call ends, in time that grows about as they do.

func named(l []string, id api.ID, keys []string) []api.Version {
	var out []api.Version
	for _, key := range l {
		out = append(out, api.Version{Key: key, ID: id, Value: "1", Keys: keys})
	}
	return out
}

func numbered(n int) []string {
	var l []string
	for i := range n {
		l = append(l, fmt.Sprintf("k%07d", i))
	}
	return l
}

// findsSoMany holds how many findings of each rule there are.
func findsSoMany(t *testing.T, what string, h []api.Event, want counts) {
	t.Helper()
	found, err := judge.Judge(h)
	var c counts
	c.add(found)
	if c != want || err != ok {
		t.Errorf("P24.1: %s: %v of each rule, %d; it should be %v", what, c, err, want)
	}
}

func TestManyWritesOfOneKey(t *testing.T) {
	const n = 100000
	wide := read(1, 1)
	var h []api.Event
	var told []api.Version
	for i := range n {
		id := api.ID(i+1) * 65536
		h = append(h, write(0, i+1, id, api.Pair{Key: "a", Value: "1"}))
		told = append(told, api.Version{Key: "a", ID: id, Value: "1", Keys: []string{"a"}})
		wide.Keys = append(wide.Keys, "a")
	}
	for i := range n {
		h = append(h, answer(0, n-i, rsOK, api.ID(n-i)*65536))
	}
	findsSoMany(t, "a read told all writes of a key", append(h, wide, answer(1, 1, rsOK, 0, told...)), counts{ruTorn: n - 1, ruLost: n - 1})
	for i := range n {
		h = append(h, read(1, i+1, "a"), answer(1, i+1, rsOK, 0, told[i]))
	}
	findsSoMany(t, "as many reads, each told one", h, counts{ruLost: n - 1})
}

func TestWideWritesAndReads(t *testing.T) {
	const n = 100000
	keys := numbered(n)
	wide := write(0, 1, 65536)
	for _, key := range keys {
		wide.Pairs = append(wide.Pairs, api.Pair{Key: key, Value: "1"})
	}
	h := []api.Event{wide, answer(0, 1, rsOK, 65536), write(1, 1, 65537, api.Pair{Key: "b", Value: "1"})}
	for i := range n {
		h = append(h, read(1, i+2, keys[i], "b"), answer(1, i+2, rsOK, 0, api.Version{Key: keys[i], ID: 65536, Value: "1"}, api.Version{Key: "b", ID: 65537, Value: "1", Keys: []string{"b"}}))
	}
	findsSoMany(t, "many reads of a wide write", h, counts{ruForged: n})
	// Each write and each read of the next has as many keys as there are of them.
	const m = 400
	keys = numbered(m)
	h = nil
	for i := range m {
		w := write(0, i+1, api.ID(i+1)*65536)
		for _, key := range keys {
			w.Pairs = append(w.Pairs, api.Pair{Key: key, Value: "1"})
		}
		h = append(h, w, answer(0, i+1, rsOK, w.ID), read(1, i+1, keys...), answer(1, i+1, rsOK, 0, named(keys, w.ID, keys)...))
	}
	findsSoMany(t, "wide writes and reads one after another", h, counts{})
	// A wide read, each of whose keys is told of a write of its own and the next key.
	h = nil
	keys = numbered(n + 1)
	all := answer(1, 1, rsOK, 0)
	for i := range n {
		id := api.ID(i+1) * 65536
		h = append(h, write(0, i+1, id, api.Pair{Key: keys[i+1], Value: "1"}, api.Pair{Key: keys[i], Value: "1"}))
		all.Answer.Versions = append(all.Answer.Versions, api.Version{Key: keys[i], ID: id, Value: "1", Keys: keys[i : i+2]})
	}
	h = append(h, read(1, 1, keys[:n]...), all)
	findsSoMany(t, "a wide read told all of its writes", h, counts{})
	long := strings.Repeat("\x00", 1<<22)
	h = []api.Event{write(0, 1, 65536, api.Pair{Key: long, Value: long}), answer(0, 1, rsOK, 65536), read(1, 1, long), answer(1, 1, rsOK, 0, api.Version{Key: long, ID: 65536, Value: long + "x", Keys: []string{long}})}
	findsSoMany(t, "a long key and value", h, counts{ruForged: 1})
}
