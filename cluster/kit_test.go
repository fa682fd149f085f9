package cluster_test

import (
	"fmt"
	"hash/fnv"
	"math"
	"math/rand"
	"slices"
	"strings"
	"testing"

	"rampart/api"
	"rampart/cluster"
)

// The document's numbers, not api's.
const (
	stWrite   = 1
	stRead    = 2
	stTick    = 3
	stStop    = 4
	stGive    = 5
	stDeliver = 6
	stLose    = 7
	stTwin    = 8
	stPart    = 9
	stCrash   = 10
	stRestart = 11
	stFull    = 12
	stArm     = 13

	evWrite  = 1
	evRead   = 2
	evAnswer = 3

	rsOK        = 1
	rsStale     = 2
	rsAborted   = 3
	rsUnknown   = 4
	rsInvalid   = 5
	rsExhausted = 6

	msPrepare   = 1
	msCommit    = 2
	msLatest    = 3
	msByID      = 4
	msPrepared  = 5
	msCommitted = 6
	msVersions  = 7
	msNack      = 8

	ok     = api.Errno(0)
	errArg = api.Errno(1)

	maxParts   = 64
	maxClients = 16
	maxRetain  = 1 << 20
	maxSeq     = 1<<48 - 1
	maxPending = 64
	perSeq     = 65536 // how many names a sequence number has

	prepareRow = 55 // bytes of the record of a prepare of a=1 and b=2 by one partition
	commitRow  = 17 // bytes of the record of a commit
)

// hard are numbers that wrap round, or are inside once their high bits are cut off.
var hard = []int{math.MinInt, math.MinInt + 1, math.MinInt32, -1 << 16, -257, -256, 256, 257, 1 << 16, 1 << 32, 1<<32 + 1, math.MaxInt32, math.MaxInt - 1, math.MaxInt}

// Steps.

func pair(key, value string) api.Pair { return api.Pair{Key: key, Value: value} }

func both(x, y string) []api.Pair { return []api.Pair{pair("a", x), pair("b", y)} }

func write(client int, pairs ...api.Pair) api.Step {
	return api.Step{Kind: stWrite, Node: client, Pairs: pairs}
}

func read(client int, keys ...string) api.Step {
	return api.Step{Kind: stRead, Node: client, Keys: keys}
}

func tick(client int) api.Step { return api.Step{Kind: stTick, Node: client} }

func stop(client int) api.Step { return api.Step{Kind: stStop, Node: client} }

func give(client, txn int) api.Step { return api.Step{Kind: stGive, Node: client, N: txn} }

func deliver(place int) api.Step { return api.Step{Kind: stDeliver, N: place} }

func lose(place int) api.Step { return api.Step{Kind: stLose, N: place} }

func twin(place int) api.Step { return api.Step{Kind: stTwin, N: place} }

func partTick(part int) api.Step { return api.Step{Kind: stPart, Node: part} }

func crash(part, keep int) api.Step { return api.Step{Kind: stCrash, Node: part, N: keep} }

func restart(part int) api.Step { return api.Step{Kind: stRestart, Node: part} }

func full(part, n int) api.Step { return api.Step{Kind: stFull, Node: part, N: n} }

func arm(part, n, keep int) api.Step { return api.Step{Kind: stArm, Node: part, N: n, K: keep} }

func times(n int, s api.Step) []api.Step { return slices.Repeat([]api.Step{s}, n) }

// Things that are told, compared and copied.

func sameVersion(a, b api.Version) bool {
	return a.Key == b.Key && a.ID == b.ID && a.Value == b.Value && slices.Equal(a.Keys, b.Keys)
}

func sameVersions(a, b []api.Version) bool { return slices.EqualFunc(a, b, sameVersion) }

func sameMessage(a, b api.Message) bool {
	return a.Kind == b.Kind && a.Client == b.Client && a.Req == b.Req && a.ID == b.ID && slices.Equal(a.Pairs, b.Pairs) &&
		slices.Equal(a.Keys, b.Keys) && slices.Equal(a.Wants, b.Wants) && sameVersions(a.Versions, b.Versions)
}

func sameFrame(a, b cluster.Frame) bool {
	return a.Number == b.Number && a.From == b.From && a.To == b.To && sameMessage(a.Message, b.Message)
}

func sameFrames(a, b []cluster.Frame) bool { return slices.EqualFunc(a, b, sameFrame) }

func sameAnswer(a, b api.Answer) bool {
	return a.Txn == b.Txn && a.Result == b.Result && a.ID == b.ID && sameVersions(a.Versions, b.Versions)
}

func sameEvent(a, b api.Event) bool {
	return a.Kind == b.Kind && a.Client == b.Client && a.Txn == b.Txn && a.ID == b.ID && slices.Equal(a.Pairs, b.Pairs) &&
		slices.Equal(a.Keys, b.Keys) && sameAnswer(a.Answer, b.Answer)
}

func sameEvents(a, b []api.Event) bool { return slices.EqualFunc(a, b, sameEvent) }

func sameKept(a, b api.Kept) bool { return a.Stamp == b.Stamp && sameVersion(a.Version, b.Version) }

func copyVersions(l []api.Version) []api.Version {
	l = slices.Clone(l)
	for i := range l {
		l[i].Keys = slices.Clone(l[i].Keys)
	}
	return l
}

func copyMessage(m api.Message) api.Message {
	m.Pairs, m.Keys, m.Wants, m.Versions = slices.Clone(m.Pairs), slices.Clone(m.Keys), slices.Clone(m.Wants), copyVersions(m.Versions)
	return m
}

func copyFrames(l []cluster.Frame) []cluster.Frame {
	l = slices.Clone(l)
	for i := range l {
		l[i].Message = copyMessage(l[i].Message)
	}
	return l
}

func copyEvents(l []api.Event) []api.Event {
	l = slices.Clone(l)
	for i := range l {
		e := &l[i]
		e.Pairs, e.Keys, e.Answer.Versions = slices.Clone(e.Pairs), slices.Clone(e.Keys), copyVersions(e.Answer.Versions)
	}
	return l
}

// partTold is what a cluster tells of a number as a partition's.
type partTold struct {
	up    bool
	now   int64
	kept  []api.Kept
	lasts []api.Last
}

func samePartTold(a, b partTold) bool {
	return a.up == b.up && a.now == b.now && slices.EqualFunc(a.kept, b.kept, sameKept) && slices.Equal(a.lasts, b.lasts)
}

// told is all that a cluster tells: of numbers just outside too.
type told struct {
	history []api.Event
	flight  []cluster.Frame
	parts   []partTold // of the numbers -1, 0 .. Parts
	live    []bool     // of the numbers -1, 0 .. Clients
}

func toldBy(c *cluster.Cluster, config api.Config) told {
	t := told{history: c.History(), flight: c.Flight()}
	for n := -1; n <= config.Parts; n++ {
		t.parts = append(t.parts, partTold{c.Up(n), c.Now(n), c.Kept(n), c.Lasts(n)})
	}
	for n := -1; n <= config.Clients; n++ {
		t.live = append(t.live, c.Live(n))
	}
	return t
}

// unlike tells where two differ; "": nowhere.
func (t told) unlike(o told) string {
	switch {
	case !sameEvents(t.history, o.history):
		return fmt.Sprintf("the history is %s, not %s", short(t.history), short(o.history))
	case !sameFrames(t.flight, o.flight):
		return fmt.Sprintf("the flight is %s, not %s", short(t.flight), short(o.flight))
	case !slices.Equal(t.live, o.live):
		return fmt.Sprintf("live (from -1 on) are %v, not %v", t.live, o.live)
	}
	for i := range t.parts {
		if !samePartTold(t.parts[i], o.parts[i]) {
			return fmt.Sprintf("the partition %d is %s, not %s", i-1, short(t.parts[i]), short(o.parts[i]))
		}
	}
	return ""
}

// short tells a thing, but not all of a long one.
func short(x any) string {
	s := strings.Map(func(r rune) rune {
		if r < ' ' || r > '~' {
			return '?'
		}
		return r
	}, fmt.Sprintf("%+v", x))
	if len(s) > 1500 {
		return "(" + fmt.Sprint(len(s)) + " signs) .. " + s[len(s)-1400:]
	}
	return s
}

// placeOf is which of so many partitions has a key.
func placeOf(key string, parts int) int {
	h := fnv.New64a()
	h.Write([]byte(key))
	return int(h.Sum64() % uint64(parts))
}

// Clusters.

func made(t *testing.T, config api.Config) *cluster.Cluster {
	t.Helper()
	c, err := cluster.New(config)
	if c == nil || err != ok {
		t.Fatalf("P22.1: New(%+v): %d", config, int(err))
	}
	t.Cleanup(c.Close)
	return c
}

func does(t *testing.T, what string, c *cluster.Cluster, want bool, steps ...api.Step) {
	t.Helper()
	for _, s := range steps {
		if got := c.Do(s); got != want {
			t.Fatalf("%s: Do(%s) = %t, want %t", what, short(s), got, want)
		}
	}
}

// settle delivers until nothing is under way.
func settle(t *testing.T, c *cluster.Cluster) {
	t.Helper()
	for n := 0; c.Do(deliver(0)); n++ {
		if n > 100000 {
			t.Fatal("P22.1: frames go on for ever")
		}
	}
	flies(t, "P22.1: nothing can be delivered", c)
}

// flies looks at the kinds of what is under way.
func flies(t *testing.T, what string, c *cluster.Cluster, kinds ...int) {
	t.Helper()
	var got []int
	for _, f := range c.Flight() {
		got = append(got, f.Message.Kind)
	}
	if !slices.Equal(got, kinds) {
		t.Fatalf("%s: under way are the kinds %v, want %v", what, got, kinds)
	}
}

// happens looks at the history's last events.
func happens(t *testing.T, what string, c *cluster.Cluster, want ...api.Event) {
	t.Helper()
	h := c.History()
	if len(h) < len(want) || !sameEvents(h[len(h)-len(want):], want) {
		t.Fatalf("%s: the history is %s, want at its end %s", what, short(h), short(want))
	}
}

func answered(client int, a api.Answer) api.Event {
	return api.Event{Kind: evAnswer, Client: client, Txn: a.Txn, Answer: a}
}

// answers are those of a client's request in a history.
func answers(h []api.Event, client, txn int) []api.Answer {
	var out []api.Answer
	for _, e := range h {
		if e.Kind == evAnswer && e.Client == client && e.Txn == txn {
			out = append(out, e.Answer)
		}
	}
	return out
}

// ends looks at how a request ended; result 0: not yet.
func ends(t *testing.T, what string, c *cluster.Cluster, client, txn, result int) api.Answer {
	t.Helper()
	l := answers(c.History(), client, txn)
	if result == 0 && len(l) == 0 {
		return api.Answer{}
	}
	if len(l) != 1 || l[0].Result != result {
		t.Fatalf("%s: the request %d of client %d is answered by %s, want the result %d", what, txn, client, short(l), result)
	}
	return l[0]
}

// reads looks at the values that a read brings, once all is delivered; "-": bottom.
func reads(t *testing.T, what string, c *cluster.Cluster, client int, keys []string, want ...string) {
	t.Helper()
	does(t, what, c, true, read(client, keys...))
	h := c.History()
	settle(t, c)
	a := ends(t, what, c, client, h[len(h)-1].Txn, rsOK)
	var got []string
	for _, v := range a.Versions {
		if v.ID == 0 {
			v.Value = "-"
		}
		got = append(got, v.Value)
	}
	if !slices.Equal(got, want) {
		t.Fatalf("%s: the read of %q tells %q, want %q", what, keys, got, want)
	}
}

// Chance.

type chance struct{ *rand.Rand }

func newChance(seed int) chance { return chance{rand.New(rand.NewSource(int64(seed)))} }

func pick[T any](g chance, l ...T) T { return l[g.Intn(len(l))] }

// oneIn tells true once in so many times.
func (g chance) oneIn(n int) bool { return g.Intn(n) == 0 }
