package cluster_test

import (
	"fmt"
	"runtime"
	"slices"
	"strings"
	"sync"
	"testing"
	"time"

	"rampart/api"
	"rampart/cluster"
)

// P22.2 to P22.6, on scripts of chance.

// lives is a cluster behind a script of chance, looked at by its promises.
func lives(t *testing.T, g chance, config api.Config, steps int, saw map[string]int) *watched {
	t.Helper()
	w, m := watch(t, config, saw), g.mood()
	for range steps {
		if g.oneIn(40) {
			m = g.mood()
		}
		w.do(g.stepOf(w.view(), m))
	}
	w.judge()
	return w
}

func TestPromisesByChance(t *testing.T) {
	g, saw := newChance(222), map[string]int{}
	for range 450 {
		w := lives(t, g, g.config(), 30+g.Intn(110), saw)
		w.drain()
		w.judge()
		for range 20 {
			w.do(g.stepOf(w.view(), moods()[0]))
		}
		w.drain()
		w.judge()
		w.c.Close()
	}
	sawEnough(t, saw, 20, "result 1", "result 3", "result 4", "result 5", "result 6", "message 4", "message 8",
		"power off in a step of the kind 6", "power off in a step of the kind 9")
}

// Writes and reads of the same few keys, with ticks between: what is fetched by name may be gone.
func TestStaleByChance(t *testing.T) {
	g, saw := newChance(223), map[string]int{}
	for range 400 {
		config := api.Config{Parts: 2 + g.Intn(2), Clients: 3, Retain: pick(g, int64(0), 0, 1, 1, 2, 3, 6, 20), Compact: pick(g, 0, 1, 100)}
		w, patience := watch(t, config, saw), pick(g, 2, 5, 20, 40)
		for range 50 + g.Intn(60) {
			w.do(g.hurried(w, patience))
		}
		w.judge()
		w.drain()
		w.judge()
		w.c.Close()
	}
	sawEnough(t, saw, 10, "result 1", "result 2", "message 4")
}

// hurried is a step of a script in which what is asked by name waits, while others write and partitions tick.
func (g chance) hurried(w *watched, patience int) api.Step {
	waits := func(f cluster.Frame) bool { return f.Message.Kind == msByID }
	n, part, crowd := g.Intn(30), g.Intn(w.config.Parts), len(w.now.flight) > 25
	switch {
	case n < 3 && !crowd:
		return write(g.Intn(2), pair("a", fmt.Sprint(n, len(w.did))), pair("b", fmt.Sprint(len(w.did))), pair("c", ""))
	case n < 6 && !crowd && !slices.ContainsFunc(w.now.flight, waits):
		return read(2, pick(g, []string{"a", "b"}, []string{"b", "a"}, []string{"a", "b", "c"}, []string{"c", "b"})...)
	case n < 12:
		return partTick(part)
	case n == 12:
		return tick(g.Intn(2))
	case n == 13 && g.oneIn(6):
		return arm(part, g.Intn(3), g.keep())
	case n == 14:
		return restart(part)
	}
	place := g.place(w.view())
	if place >= 0 && place < len(w.now.flight) && waits(w.now.flight[place]) && !g.oneIn(patience) {
		return partTick(part)
	}
	return deliver(place)
}

// P7: whatever others have left undone, a read needs its own client and its own partitions alone.
func TestNobodyWaits(t *testing.T) {
	g, saw := newChance(224), map[string]int{}
	answeredReads := 0
	for range 400 {
		config := g.config()
		config.Clients = 2 + g.Intn(3)
		w := lives(t, g, config, 20+g.Intn(80), saw)
		n, keys := g.Intn(config.Clients), g.keys()
		if !w.do(read(n, keys...)) || len(w.now.flight) == 0 {
			continue
		}
		txn := w.now.history[len(w.now.history)-1].Txn
		w.alone(n, keys)
		l := answers(w.now.history, n, txn)
		if len(l) != 1 {
			w.fail("P7: the read %d of the client %d, which goes on alone, is not answered", txn, n)
		}
		if l[0].Result == rsOK {
			answeredReads++
		} else if l[0].Result != rsStale && l[0].Result != rsInvalid {
			w.fail("P7: the read is answered by %s", short(l[0]))
		}
		w.judge()
		w.c.Close()
	}
	if answeredReads < 150 {
		t.Errorf("the test saw %d reads that are OK", answeredReads)
	}
}

// alone lets a client and the partitions of these keys go on as in P5, and nobody else.
func (w *watched) alone(client int, keys []string) {
	w.t.Helper()
	var parts []int
	for _, key := range keys {
		parts = append(parts, placeOf(key, w.config.Parts))
	}
	for _, p := range parts {
		w.must(arm(p, -1, 0))
		w.must(full(p, 0))
		if !w.c.Up(p) {
			w.must(restart(p))
		}
	}
	w.must(tick(client))
	for range 4 {
		last := w.given
		for place := 0; place < len(w.now.flight) && w.now.flight[place].Number <= last; {
			f := w.now.flight[place]
			if f.Message.Client == client && (slices.Contains(parts, f.To) || slices.Contains(parts, f.From)) {
				w.must(deliver(place))
			} else {
				place++
			}
		}
	}
}

// P22.3: behind every short script, too.
func TestDrainBehindShortScripts(t *testing.T) {
	saw := map[string]int{}
	scripts(shortSteps(), 2, func(script []api.Step) {
		for _, ahead := range [][]api.Step{
			{write(0, both("1", "2")...), read(1, "b", "a")},
			{write(0, both("1", "2")...), deliver(0), deliver(0), deliver(0)},
			{write(0, both("1", "2")...), write(1, both("3", "4")...), deliver(0), deliver(1), deliver(2), deliver(0), read(0, "a", "b"), deliver(1)},
		} {
			w := watch(t, api.Config{Parts: 2, Clients: 2, Retain: 1, Compact: 1}, saw)
			w.run(ahead...)
			w.run(script...)
			w.drain()
			w.judge()
			w.c.Close()
		}
	})
}

// A write's every step of the disk, at each of its partitions, with the power going off there: what was done is seen.
func TestPowerInWrites(t *testing.T) {
	saw := map[string]int{}
	for n := range 24 {
		for part := range 2 {
			for _, keep := range []int{0, 30, 1 << 20} {
				w := watch(t, api.Config{Parts: 2, Clients: 2, Retain: 1, Compact: 60}, saw)
				w.run(arm(part, n, keep))
				for i := range 3 {
					w.run(write(0, pair("a", fmt.Sprint(i)), pair("b", fmt.Sprint(i)), pair("c", ""), pair("d", "")), read(1, "d", "c", "b", "a"))
					for range 14 {
						w.run(deliver(0))
					}
					w.run(partTick(0), partTick(1), tick(0))
				}
				w.judge()
				w.drain()
				w.judge()
				w.must(read(1, "a", "b"))
				w.drain()
				if a := answers(w.now.history, 1, 4); len(a) != 1 || a[0].Versions[0].Value != "2" || a[0].Versions[1].Value != "2" {
					w.fail("P3: the last read is answered by %s", short(a))
				}
				w.c.Close()
			}
		}
	}
	sawEnough(t, saw, 20, "power off in a step of the kind 6", "power off in a step of the kind 9")
}

// P22.6: a script and the same script without the steps that told false are one.
func TestWithoutWhatTellsFalse(t *testing.T) {
	g := newChance(226)
	falses := 0
	for range 200 {
		config := g.config()
		w := watch(t, config, map[string]int{})
		c := made(t, config)
		m := pick(g, moods()[3:]...)
		for range 100 {
			s := g.stepOf(w.view(), m)
			if !w.do(s) {
				falses++
				continue
			}
			if !c.Do(s) {
				w.fail("P22.6: without the steps that told false this one tells false")
			}
			if diff := toldBy(c, config).unlike(w.now); diff != "" {
				w.fail("P22.6: without the steps that told false %s", diff)
			}
		}
		w.c.Close()
		c.Close()
	}
	if falses < 1000 {
		t.Errorf("the test saw %d steps that told false", falses)
	}
}

// To be told changes nothing: a cluster that is asked at each step, and one that is asked at the end.
func TestTellingChangesNothing(t *testing.T) {
	g := newChance(227)
	for range 200 {
		config := g.config()
		w := watch(t, config, map[string]int{})
		c := made(t, config)
		for range 80 {
			s := g.stepOf(w.view(), g.mood())
			c.Do(s)
			w.do(s)
		}
		if diff := toldBy(c, config).unlike(w.now); diff != "" {
			w.fail("P22.7: a cluster that is asked at the end alone: %s", diff)
		}
		w.c.Close()
		c.Close()
	}
}

// P22.7.

// Two clusters by turns know nothing of one another.
func TestTwoByTurns(t *testing.T) {
	g := newChance(228)
	for range 100 {
		config := g.config()
		a, b := newTwins(t, config), newTwins(t, pick(g, config, g.config()))
		ma, mb := g.mood(), g.mood()
		for range 80 {
			if g.oneIn(2) {
				a.do(t, g.stepOf(a.x.view(), ma))
				b.looks(t)
			} else {
				b.do(t, g.stepOf(b.x.view(), mb))
				a.looks(t)
			}
		}
		a.c.Close()
		b.looks(t)
		b.do(t, write(0, both("1", "2")...))
		b.c.Close()
	}
}

// recorded is a script, and what a cluster tells behind it.
type recorded struct {
	config api.Config
	steps  []api.Step
	did    []bool
	end    told
}

func record(t *testing.T, g chance) recorded {
	t.Helper()
	r := recorded{config: g.config()}
	w := watch(t, r.config, map[string]int{})
	m := g.mood()
	for range 150 {
		s := g.stepOf(w.view(), m)
		r.steps = append(r.steps, s)
		r.did = append(r.did, w.do(s))
	}
	r.end = w.now
	w.c.Close()
	return r
}

// again does the script on a new cluster: what is unlike.
func (r recorded) again() string {
	c, err := cluster.New(r.config)
	if err != ok {
		return "New refuses"
	}
	defer c.Close()
	for i, s := range r.steps {
		if c.Do(s) != r.did[i] {
			return fmt.Sprintf("%+v: the step %d of %s tells %t", r.config, i, script(r.steps), !r.did[i])
		}
	}
	return toldBy(c, r.config).unlike(r.end)
}

// The same script, at once on many clusters, with much and little room for the workers to run: the same comes of it.
func TestOneOutcome(t *testing.T) {
	g := newChance(229)
	var all []recorded
	for range 40 {
		all = append(all, record(t, g))
	}
	for _, procs := range []int{1, 2, 16} {
		old := runtime.GOMAXPROCS(procs)
		found := make([]string, 4*len(all))
		var workers sync.WaitGroup
		for i := range found {
			workers.Go(func() { found[i] = all[i%len(all)].again() })
		}
		workers.Wait()
		runtime.GOMAXPROCS(old)
		for _, diff := range found {
			if diff != "" {
				t.Fatalf("P22.7: with %d at a time: %s", procs, diff)
			}
		}
	}
}

// Behind Close nothing happens, and all is told as ahead of it; once more does nothing.
func TestClose(t *testing.T) {
	g := newChance(230)
	for i := range 150 {
		config := g.config()
		w := newTwins(t, config)
		if i > 3 {
			m := g.mood()
			for range 60 {
				w.do(t, g.stepOf(w.x.view(), m))
			}
		}
		for range 3 {
			w.c.Close()
			w.x.closed = true
			w.looks(t)
			for _, s := range slices.Concat(shortSteps(), []api.Step{read(0), write(0), restart(0), {Kind: 14}, {}}) {
				if w.do(t, s) {
					t.Fatalf("P22.1: behind Close the step %s happened", short(s))
				}
			}
			for n := range config.Parts {
				if w.do(t, partTick(n)) || w.do(t, restart(n)) || w.do(t, full(n, 1)) || w.do(t, arm(n, 0, 0)) || w.do(t, crash(n, 0)) {
					t.Fatal("P22.1: behind Close a step of a partition happened")
				}
			}
		}
		w.c.Close()
	}
}

// Each partition has a worker; a cluster that is closed leaves none, and one that is refused has none.
func TestWorkersEnd(t *testing.T) {
	before := runtime.NumGoroutine()
	var all []*cluster.Cluster
	partitions := 0
	for _, parts := range []int{1, 2, 5, 64} {
		c, err := cluster.New(api.Config{Parts: parts, Clients: 1})
		if err != ok {
			t.Fatalf("P22.1: New: %d", int(err))
		}
		cluster.New(api.Config{Parts: parts, Clients: 0})
		cluster.New(api.Config{Parts: parts, Clients: 1, First: maxSeq + 1})
		all = append(all, c)
		partitions += parts
	}
	if n := runtime.NumGoroutine() - before; n > partitions+8 {
		t.Errorf("P22.7: %d goroutines for %d partitions", n, partitions)
	}
	for _, c := range all {
		c.Do(write(0, both("1", "2")...))
		c.Do(crash(0, 0))
		c.Close()
	}
	for range 500 {
		if runtime.NumGoroutine() <= before {
			return
		}
		time.Sleep(10 * time.Millisecond)
	}
	t.Errorf("P22.7: behind Close there are %d goroutines, were %d", runtime.NumGoroutine(), before)
}

// What is told is new memory, and no two lists of an answer share any.
func TestToldIsNewMemory(t *testing.T) {
	c := made(t, small)
	does(t, "P22.7", c, true, write(0, both("1", "2")...))
	settle(t, c)
	does(t, "P22.7", c, true, read(1, "a", "b"))
	settle(t, c)
	does(t, "P22.7", c, true, write(0, both("3", "4")...), write(1, both("5", "6")...), read(0, "a", "b"), twin(0), twin(2), deliver(2))
	want := toldBy(c, small)
	want.history, want.flight = copyEvents(want.history), copyFrames(want.flight)
	ahead := toldBy(c, small)

	is := toldBy(c, small)
	fill(is.history[3].Answer.Versions[0].Keys, "spoilt")
	fill(is.history[0].Pairs, pair("spoilt", ""))
	fill(is.history[2].Keys, "spoilt")
	fill(is.flight[0].Message.Keys, "spoilt")
	fill(is.flight[0].Message.Pairs, pair("spoilt", ""))
	fill(is.parts[1].kept[0].Version.Keys, "spoilt")
	if !slices.Equal(is.history[3].Answer.Versions[1].Keys, []string{"a", "b"}) || !sameEvents(is.history[4:], want.history[4:]) ||
		!sameFrames(is.flight[1:], want.flight[1:]) || !slices.EqualFunc(is.parts[1].kept[1:], want.parts[1].kept[1:], sameKept) {
		t.Errorf("P22.7: lists of one answer share memory: %s", short(is))
	}
	is.spoil()
	for _, l := range []told{toldBy(c, small), ahead} {
		if diff := l.unlike(want); diff != "" {
			t.Errorf("P22.7: what was told is spoilt, and then %s", diff)
		}
	}
}

// What was told stays as it was, whatever comes then; what is handed in is neither changed nor kept (twins spoil it).
func TestToldStays(t *testing.T) {
	g := newChance(231)
	for range 40 {
		w := newTwins(t, g.config())
		var tolds, copies []told
		for range 60 {
			w.do(t, g.stepOf(w.x.view(), g.mood()))
			is := toldBy(w.c, w.x.config)
			tolds = append(tolds, is)
			is.history, is.flight = copyEvents(is.history), copyFrames(is.flight)
			copies = append(copies, is)
		}
		w.c.Close()
		for i := range tolds {
			if diff := tolds[i].unlike(copies[i]); diff != "" {
				t.Fatalf("P22.7: behind %s what was told changed: %s", script(w.did), diff)
			}
		}
	}
}

func inUse() int64 {
	runtime.GC()
	runtime.GC()
	var m runtime.MemStats
	runtime.ReadMemStats(&m)
	return int64(m.HeapAlloc)
}

// Of a text that is a piece of a long one no more is kept than the piece, of refused requests too.
func TestNoLongTextIsKept(t *testing.T) {
	before := inUse()
	c := made(t, small)
	for range 40 {
		long := strings.Repeat("x", 1<<20)
		piece := long[1000:1001]
		c.Do(write(0, pair(piece, piece)))
		settle(t, c)
		c.Do(write(0, pair(piece, ""), pair(piece, "")))
		c.Do(write(0, pair("", piece)))
		settle(t, c)
		c.Do(read(1, piece))
		settle(t, c)
		c.Do(read(1, piece, piece))
	}
	if grown := inUse() - before; grown > 8<<20 {
		t.Errorf("P22.7: %d bytes are kept", grown)
	}
	runtime.KeepAlive(c)
}

// Many reads of a great write: of its keys there is one list for each answer, not one for each version.
func TestNoMoreIsKept(t *testing.T) {
	c := made(t, small)
	var pairs []api.Pair
	var names []string
	for i := range 1024 {
		names = append(names, fmt.Sprint("key ", i))
		pairs = append(pairs, pair(names[i], "v"))
	}
	c.Do(write(0, pairs...))
	settle(t, c)
	before := inUse()
	for range 4 {
		c.Do(read(1, names...))
		settle(t, c)
	}
	if n := len(c.History()); n != 10 {
		t.Fatalf("P22.5: the history has %d events", n)
	}
	if grown := inUse() - before; grown > 4<<20 {
		t.Errorf("P22.7: %d bytes are kept of four reads", grown)
	}
	runtime.KeepAlive(c)
}
