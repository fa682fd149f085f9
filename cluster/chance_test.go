package cluster_test

import (
	"fmt"
	"math"
	"slices"
	"strings"
	"testing"

	"rampart/api"
)

// Scripts of chance.

func (g chance) config() api.Config {
	c := api.Config{
		Parts:   pick(g, 1, 1, 2, 2, 3, 4, 4, 5),
		Clients: pick(g, 1, 2, 2, 3, 4),
		Retain:  pick(g, int64(0), 0, 1, 1, 2, 3, 10),
		Compact: pick(g, 0, 0, 1, 40, 150, 400),
		First:   pick(g, uint64(0), 0, 0, 1, 9, maxSeq-4, maxSeq-1, maxSeq),
	}
	if g.oneIn(20) {
		c.Parts, c.Clients = pick(g, 1, 63, 64), pick(g, 1, 15, 16)
	}
	return c
}

// universe are the keys of the scripts, few, so that requests meet.
func universe() []string { return []string{"a", "b", "c", "d", "e", "", "\x00", "a\x00", "\xff"} }

func (g chance) keys() []string {
	all := universe()[:pick(g, 3, 3, 9)]
	g.Shuffle(len(all), func(i, j int) { all[i], all[j] = all[j], all[i] })
	l := all[:1+g.Intn(pick(g, 2, 3, 3, len(all)))]
	switch {
	case g.oneIn(40):
		return nil
	case g.oneIn(40):
		return append(l, l[0])
	}
	return l
}

func (g chance) pairs() []api.Pair {
	var l []api.Pair
	for _, key := range g.keys() {
		value := fmt.Sprint("v", g.Intn(1000000))
		if g.oneIn(10) {
			value = pick(g, "", "same", "\x00")
		}
		l = append(l, pair(key, value))
	}
	return l
}

// view is what a step of chance hangs on: how many frames are under way, what is pending, which partitions are down.
type view struct {
	config  api.Config
	frames  int
	pending [][]int // of each client
	down    []int
}

func (x *model) view() view {
	v := view{config: x.config, frames: len(x.flight)}
	for n := range x.config.Clients {
		v.pending = append(v.pending, x.pending(n))
	}
	for n := range x.config.Parts {
		if !x.up(n) {
			v.down = append(v.down, n)
		}
	}
	return v
}

// number is one of n, or, rarely, none of them.
func (g chance) number(n int) int {
	if g.oneIn(50) {
		return pick(g, -1, n, n+1, math.MinInt, math.MaxInt)
	}
	return g.Intn(n)
}

func (g chance) place(v view) int {
	if v.frames == 0 || g.oneIn(40) {
		return pick(g, -1, v.frames, v.frames+1)
	}
	if g.oneIn(2) {
		return 0
	}
	return g.Intn(v.frames)
}

func (g chance) txn(v view, client int) int {
	if client < 0 || client >= len(v.pending) || len(v.pending[client]) == 0 || g.oneIn(5) {
		return g.Intn(7) - 1
	}
	return pick(g, v.pending[client]...)
}

func (g chance) keep() int { return pick(g, -1, 0, 1, 5, 17, 40, 60, 100, 1<<20) }

// mood is how often each kind of step comes: one of these lists.
type mood []int

// moods are of calm scripts, of those with many ticks of partitions, of losses and twins, of crashes, of all.
func moods() []mood {
	often := func(kind, n int) []int { return slices.Repeat([]int{kind}, n) }
	return []mood{
		slices.Concat(often(stWrite, 4), often(stRead, 4), often(stDeliver, 26), often(stTick, 1)),
		slices.Concat(often(stWrite, 4), often(stRead, 4), often(stDeliver, 20), often(stPart, 10), often(stTick, 1)),
		slices.Concat(often(stWrite, 3), often(stRead, 3), often(stDeliver, 16), often(stLose, 3), often(stTwin, 2), often(stTick, 3), often(stGive, 2)),
		slices.Concat(often(stWrite, 3), often(stRead, 3), often(stDeliver, 16), often(stCrash, 1), often(stRestart, 3), often(stArm, 3), often(stFull, 2), often(stTick, 3), often(stPart, 4)),
		slices.Concat(often(stWrite, 3), often(stRead, 3), often(stDeliver, 18), often(stLose, 1), often(stTwin, 1), often(stTick, 3), often(stGive, 1), often(stStop, 1), often(stCrash, 1), often(stRestart, 2), often(stArm, 2), often(stFull, 1), often(stPart, 5)),
		slices.Concat(often(0, 1), often(stWrite, 1), often(stRead, 1), often(stTick, 1), often(stStop, 1), often(stGive, 1), often(stDeliver, 1), often(stLose, 1), often(stTwin, 1), often(stPart, 1), often(stCrash, 1), often(stRestart, 1), often(stFull, 1), often(stArm, 1), often(14, 1)),
	}
}

func (g chance) mood() mood { return pick(g, moods()...) }

// step is one of any mood.
func (g chance) step(x *model) api.Step { return g.stepOf(x.view(), g.mood()) }

func (g chance) stepOf(v view, m mood) api.Step {
	kind := pick(g, m...)
	// Neither do all partitions stay down for long, nor do frames heap up.
	if len(v.down) > 0 && g.oneIn(6) {
		kind = stRestart
	}
	if v.frames > 50 && g.oneIn(2) {
		kind = pick(g, stDeliver, stDeliver, stLose)
	}
	client, part := g.number(v.config.Clients), g.number(v.config.Parts)
	switch kind {
	case stWrite:
		return write(client, g.pairs()...)
	case stRead:
		return read(client, g.keys()...)
	case stTick:
		return tick(client)
	case stStop:
		if !g.oneIn(3) {
			return tick(client)
		}
		return stop(client)
	case stGive:
		return give(client, g.txn(v, client))
	case stDeliver:
		return deliver(g.place(v))
	case stLose:
		return lose(g.place(v))
	case stTwin:
		return twin(g.place(v))
	case stPart:
		return partTick(part)
	case stCrash:
		return crash(part, g.keep())
	case stRestart:
		if len(v.down) > 0 && !g.oneIn(8) {
			part = pick(g, v.down...)
		}
		return restart(part)
	case stFull:
		return full(part, pick(g, -1, 0, 1, 1, 2, 3))
	case stArm:
		return arm(part, pick(g, -1, 0, 0, 1, 1, 2, 3, 4, 5, 7), g.keep())
	}
	return api.Step{Kind: kind, Node: client, N: part, Pairs: both("1", "2"), Keys: []string{"a"}}
}

// P22.1.

func TestScriptsByChance(t *testing.T) {
	g := newChance(221)
	for range 500 {
		w, m := newTwins(t, g.config()), g.mood()
		for range 20 + g.Intn(120) {
			if g.oneIn(40) {
				m = g.mood()
			}
			w.do(t, g.stepOf(w.x.view(), m))
		}
		w.c.Close()
	}
}

// scripts calls f with each script of n steps.
func scripts(steps []api.Step, n int, f func(script []api.Step)) {
	script := make([]api.Step, n)
	var from func(i int)
	from = func(i int) {
		if i == n {
			f(script)
			return
		}
		for _, s := range steps {
			script[i] = s
			from(i + 1)
		}
	}
	from(0)
}

// shortSteps are steps of each kind.
func shortSteps() []api.Step {
	return []api.Step{
		write(0, both("1", "2")...), read(1, "a", "b"), tick(0), stop(0), give(0, 1), deliver(0), deliver(1), lose(0), twin(0),
		partTick(0), crash(0, 0), restart(0), full(0, 1), arm(0, 1, 60),
	}
}

// All scripts of three steps: of a new cluster, and in the midst of a write.
func TestShortScripts(t *testing.T) {
	for _, ahead := range [][]api.Step{
		nil,
		{write(0, both("3", "4")...), deliver(0), deliver(0)},
	} {
		scripts(shortSteps(), 3, func(script []api.Step) {
			w := newTwins(t, api.Config{Parts: 2, Clients: 2, Compact: 1})
			w.run(t, ahead...)
			w.run(t, script...)
			w.c.Close()
		})
	}
}

// Great requests: as many keys as there may be, and values that fill a frame.
func TestGreat(t *testing.T) {
	config := api.Config{Parts: 3, Clients: 2, Retain: 1, Compact: 1000}
	c := made(t, config)
	var pairs []api.Pair
	var names []string
	for i := range 1024 {
		key := fmt.Sprint("key ", i)
		pairs = append(pairs, pair(key, fmt.Sprint("value of ", key)))
		names = append(names, key)
	}
	does(t, "P22.1", c, true, write(0, pairs...))
	settle(t, c)
	ends(t, "P22.1", c, 0, 1, rsOK)
	does(t, "P22.1", c, true, partTick(0), crash(0, 0), restart(0), read(1, names...))
	for range 3 + 1024 {
		does(t, "P22.1", c, true, deliver(0))
	}
	a := ends(t, "P22.1", c, 1, 1, rsOK)
	slices.Sort(names)
	for i, v := range a.Versions {
		if !sameVersion(v, api.Version{Key: pairs[i].Key, ID: 65536, Value: pairs[i].Value, Keys: names}) {
			t.Fatalf("P22.2: the key %d is told as %s", i, short(v))
		}
	}

	// Together more than a frame takes, but not those of any one partition.
	wide := string(make([]byte, 65000))
	var heavy []api.Pair
	for i := range 18 {
		heavy = append(heavy, pair(fmt.Sprint(keyOf(i%3, 3), strings.Repeat("+", i)), wide))
	}
	does(t, "P22.1", c, true, write(0, heavy...))
	settle(t, c)
	ends(t, "P22.1", c, 0, 2, rsOK)
	for i := 0; len(heavy) < 60; i++ {
		if key := fmt.Sprint("one's own ", i); placeOf(key, 3) == 1 {
			heavy = append(heavy, pair(key, wide))
		}
	}
	does(t, "P22.5: too great for a frame", c, true, write(0, heavy...))
	flies(t, "P22.5", c)
	happens(t, "P22.5", c, answered(0, api.Answer{Txn: 3, Result: rsInvalid}))
}

// A write of one partition whose prepare's body has just as many bytes as it may have, and one with a byte more.
func TestPrepareAtMaxBody(t *testing.T) {
	const maxBody = 1<<20 - 64
	for more := range 2 {
		c := made(t, api.Config{Parts: 1, Clients: 1})
		// Of the body: 18 bytes ahead of the keys, two counts, of each pair its key twice and its value.
		left := maxBody + more - 18 - 8
		var pairs []api.Pair
		for i := range 17 {
			size := min(left-2*(4+2)-4, 65535)
			if i == 15 {
				size = 60000 // so that the last one has room for its lengths
			}
			pairs = append(pairs, pair(fmt.Sprintf("%02d", i), string(make([]byte, size))))
			left -= 2*(4+2) + 4 + size
		}
		if left != 0 {
			t.Fatalf("the test's pairs are %d bytes too short", left)
		}
		does(t, "P22.1", c, true, write(0, pairs...))
		if more > 0 {
			flies(t, "P22.5: above MaxBody", c)
			happens(t, "P22.5: above MaxBody", c, answered(0, api.Answer{Txn: 1, Result: rsInvalid}))
			continue
		}
		settle(t, c)
		ends(t, "P22.1: at MaxBody", c, 0, 1, rsOK)
		does(t, "P22.1", c, true, crash(0, 0), restart(0), read(0, pairs[0].Key, pairs[16].Key))
		settle(t, c)
		if a := ends(t, "P22.1: at MaxBody", c, 0, 2, rsOK); a.Versions[0].Value != pairs[0].Value || a.Versions[1].Value != pairs[16].Value {
			t.Fatal("P22.2: great values are told otherwise")
		}
	}
}

// Long scripts: many requests of many clients, one behind the other.
func TestLongScript(t *testing.T) {
	c := made(t, api.Config{Parts: 4, Clients: 3, Retain: 2, Compact: 500})
	for i := range 400 {
		n := i % 3
		does(t, "P22.1", c, true, write(n, pair("a", fmt.Sprint(i)), pair("b", fmt.Sprint(-i))), read(n, "b", "a"), partTick(i%4))
		settle(t, c)
		if i%50 == 49 {
			does(t, "P22.1", c, true, crash(0, 0), restart(0))
		}
	}
	h := c.History()
	if len(h) != 1600 || slices.ContainsFunc(h, func(e api.Event) bool { return e.Kind == evAnswer && e.Answer.Result != rsOK }) {
		t.Fatalf("P22.1: of 800 requests there are %d events, or one that is not OK", len(h))
	}
	reads(t, "P22.2", c, 0, []string{"a", "b"}, "399", "-399")
}
