package cluster_test

import (
	"fmt"
	"math"
	"slices"
	"strings"
	"testing"

	"rampart/api"
	"rampart/cluster"
)

// small is the config of the chapter's examples; in four, a is in partition 0, b in 1.
var (
	small = api.Config{Parts: 1, Clients: 2, Retain: 10}
	four  = api.Config{Parts: 4, Clients: 2, Retain: 10}
)

// The chapter's examples.

func exampleOne(t *testing.T) *cluster.Cluster {
	t.Helper()
	c := made(t, small)
	does(t, "example 1", c, true, write(0, pair("a", "1")))
	happens(t, "example 1", c, api.Event{Kind: evWrite, Client: 0, Txn: 1, ID: 65536, Pairs: []api.Pair{pair("a", "1")}})
	prepare := api.Message{Kind: msPrepare, Client: 0, Req: 1, ID: 65536, Pairs: []api.Pair{pair("a", "1")}, Keys: []string{"a"}}
	if f := c.Flight(); !sameFrames(f, []cluster.Frame{{Number: 1, From: -1, To: 0, Message: prepare}}) {
		t.Fatalf("example 1: the flight is %s", short(f))
	}
	for _, kind := range []int{msPrepared, msCommit, msCommitted} {
		does(t, "example 1", c, true, deliver(0))
		flies(t, "example 1", c, kind)
		if len(c.History()) != 1 {
			t.Fatalf("example 1: the history is %s", short(c.History()))
		}
	}
	does(t, "example 1", c, true, deliver(0))
	flies(t, "example 1", c)
	happens(t, "example 1", c, answered(0, api.Answer{Txn: 1, Result: rsOK, ID: 65536}))
	if len(c.History()) != 2 {
		t.Fatalf("example 1: the history is %s", short(c.History()))
	}
	return c
}

func TestExampleOne(t *testing.T) { exampleOne(t) }

func TestExampleTwo(t *testing.T) {
	c := exampleOne(t)
	does(t, "example 2", c, true, read(1, "a"), deliver(0), deliver(0))
	happens(t, "example 2", c,
		api.Event{Kind: evRead, Client: 1, Txn: 1, Keys: []string{"a"}},
		answered(1, api.Answer{Txn: 1, Result: rsOK, Versions: []api.Version{{Key: "a", ID: 65536, Value: "1", Keys: []string{"a"}}}}))
	if len(c.History()) != 4 {
		t.Fatalf("example 2: the history is %s", short(c.History()))
	}
}

func TestExampleThree(t *testing.T) {
	c := made(t, small)
	does(t, "example 3", c, true, read(0))
	if h := c.History(); !sameEvents(h, []api.Event{{Kind: evRead, Client: 0, Txn: 1}, answered(0, api.Answer{Txn: 1, Result: rsInvalid})}) {
		t.Fatalf("example 3: the history is %s", short(h))
	}
	flies(t, "example 3", c)
	does(t, "example 3", c, false, write(2, pair("a", "1")), deliver(0))
}

func TestExampleFour(t *testing.T) {
	c := made(t, small)
	does(t, "example 4", c, true, arm(0, 1, 0), write(0, pair("a", "1")), deliver(0))
	flies(t, "example 4", c)
	if c.Up(0) {
		t.Fatal("example 4: the partition is up")
	}
	does(t, "example 4", c, true, restart(0))
	if !c.Up(0) || len(c.Kept(0))+len(c.Lasts(0)) > 0 {
		t.Fatalf("example 4: behind the restart up is %t, there are %s", c.Up(0), short(c.Kept(0)))
	}
	reads(t, "example 4", c, 1, []string{"a"}, "-")
}

// New.

func TestNew(t *testing.T) {
	type row struct {
		what   string
		good   bool
		config api.Config
	}
	base := api.Config{Parts: 2, Clients: 2, Retain: 3, Compact: 4, First: 5}
	var rows []row
	add := func(what string, good bool, turn func(c *api.Config)) {
		c := base
		turn(&c)
		rows = append(rows, row{what, good, c})
	}
	numbers := func(from, to int) []int {
		l := append([]int{}, hard...)
		for n := from; n <= to; n++ {
			l = append(l, n)
		}
		return l
	}
	for _, n := range numbers(-3, 67) {
		add("Parts", n >= 1 && n <= maxParts, func(c *api.Config) { c.Parts = n })
		add("Clients", n >= 1 && n <= maxClients, func(c *api.Config) { c.Clients = n })
	}
	for _, n := range append(numbers(-2, 2), maxRetain-1, maxRetain, maxRetain+1, 2*maxRetain) {
		add("Retain", n >= 0 && n <= maxRetain, func(c *api.Config) { c.Retain = int64(n) })
	}
	for _, n := range numbers(-2, 2) {
		add("Compact", n >= 0, func(c *api.Config) { c.Compact = n })
	}
	for _, n := range []uint64{0, 1, 2, 1 << 32, maxSeq - 1, maxSeq, maxSeq + 1, 1 << 49, 1 << 63, math.MaxUint64} {
		add("First", n <= maxSeq, func(c *api.Config) { c.First = n })
	}
	add("all at once", false, func(c *api.Config) { *c = api.Config{Parts: 0, Clients: 17, Retain: -1, Compact: -1, First: 1 << 48} })
	add("nothing", false, func(c *api.Config) { *c = api.Config{} })
	for _, r := range rows {
		c, err := cluster.New(r.config)
		if !r.good {
			if c != nil || err != errArg {
				t.Errorf("P22.1: %s: New(%+v) = %v, %d, want none and ErrArg", r.what, r.config, c != nil, int(err))
			}
			continue
		}
		if c == nil || err != ok {
			t.Fatalf("P22.1: %s: New(%+v): %d", r.what, r.config, int(err))
		}
		if diff := toldBy(c, r.config).unlike(fresh(r.config)); diff != "" {
			t.Errorf("P22.1: a new cluster %+v: %s", r.config, diff)
		}
		c.Close()
	}
}

// fresh is what a cluster tells in which nothing has happened.
func fresh(config api.Config) told {
	t := told{parts: make([]partTold, config.Parts+2), live: make([]bool, config.Clients+2)}
	for n := range config.Parts {
		t.parts[n+1].up = true
	}
	for n := range config.Clients {
		t.live[n+1] = true
	}
	return t
}

// The greatest cluster: each client writes a key of each partition.
func TestAllNodes(t *testing.T) {
	config := api.Config{Parts: maxParts, Clients: maxClients, Retain: maxRetain, Compact: math.MaxInt}
	c := made(t, config)
	for n := range maxClients {
		var pairs []api.Pair
		for p := range maxParts {
			pairs = append(pairs, pair(keyOf(p, maxParts), fmt.Sprint("client ", n)))
		}
		does(t, "P22.1", c, true, write(n, pairs...))
		f := c.Flight()
		if len(f) != maxParts {
			t.Fatalf("P22.1: %d frames are under way, want %d", len(f), maxParts)
		}
		for p, one := range f {
			if one.From != -1-n || one.To != p || one.Message.Client != n || one.Message.ID != api.ID(perSeq+n) {
				t.Fatalf("P22.1: the frame %d is %s", p, short(one))
			}
		}
		settle(t, c)
		ends(t, "P22.1", c, n, 1, rsOK)
	}
	for p := range maxParts {
		if l := c.Lasts(p); len(l) != 1 || l[0].ID != perSeq+maxClients-1 || len(c.Kept(p)) != maxClients {
			t.Fatalf("P22.1: the partition %d has the lasts %v and %d versions", p, l, len(c.Kept(p)))
		}
	}
	reads(t, "P22.1", c, 0, []string{keyOf(63, maxParts), keyOf(0, maxParts)}, "client 15", "client 15")
}

// keyOf is a key of a partition.
func keyOf(part, parts int) string {
	for i := 0; ; i++ {
		if key := fmt.Sprint("key ", i); placeOf(key, parts) == part {
			return key
		}
	}
}

func TestFirst(t *testing.T) {
	for _, first := range []uint64{0, 1, 2, 77, maxSeq - 1, maxSeq} {
		config := small
		config.First = first
		c := made(t, config)
		next := max(first, 1)
		for txn := 1; txn <= 3; txn++ {
			does(t, "P22.1", c, true, write(1, pair("a", "1")))
			settle(t, c)
			if next > maxSeq {
				happens(t, "P22.5: exhausted", c,
					api.Event{Kind: evWrite, Client: 1, Txn: txn, Pairs: []api.Pair{pair("a", "1")}},
					answered(1, api.Answer{Txn: txn, Result: rsExhausted}))
				continue
			}
			id := api.ID(next*perSeq + 1)
			happens(t, "P22.1: First", c,
				api.Event{Kind: evWrite, Client: 1, Txn: txn, ID: id, Pairs: []api.Pair{pair("a", "1")}},
				answered(1, api.Answer{Txn: txn, Result: rsOK, ID: id}))
			next++
		}
	}
}

// Steps that are none.

// busy is a cluster in which much is under way: a write of each client, one of them prepared at one partition alone.
func busy(t *testing.T, config api.Config) *twins {
	t.Helper()
	w := newTwins(t, config)
	for n := range config.Clients {
		w.do(t, write(n, both("1", "2")...))
	}
	w.do(t, deliver(0))
	return w
}

func TestKindsThatAreNone(t *testing.T) {
	w := busy(t, four)
	var kinds []int
	for kind := -20; kind <= 40; kind++ {
		kinds = append(kinds, kind)
	}
	for _, kind := range append(kinds, hard...) {
		if kind >= stWrite && kind <= stArm {
			continue
		}
		s := api.Step{Kind: kind, Pairs: both("3", "4"), Keys: []string{"a"}}
		if w.do(t, s) {
			t.Fatalf("P22.1: a step of the kind %d happened", kind)
		}
	}
}

// numbersAbout are numbers inside and outside of 0 .. n - 1.
func numbersAbout(n int) []int {
	l := []int{-2, -1, 0, n - 1, n, n + 1}
	return append(l, hard...)
}

func TestNodes(t *testing.T) {
	for _, config := range []api.Config{{Parts: 1, Clients: 1}, {Parts: 3, Clients: 2, Retain: 1}, {Parts: 2, Clients: 3}, {Parts: 64, Clients: 16}} {
		for _, n := range numbersAbout(config.Clients) {
			for _, s := range []api.Step{write(n, pair("a", "1")), read(n, "a"), read(n), tick(n), give(n, 1), stop(n)} {
				w := busy(t, config)
				if got, want := w.do(t, s), n >= 0 && n < config.Clients; got != want {
					t.Fatalf("P22.1: of %+v the step %s tells %t", config, short(s), got)
				}
			}
		}
		for _, n := range numbersAbout(config.Parts) {
			for _, s := range []api.Step{partTick(n), crash(n, 0), full(n, 1), arm(n, 1, 0)} {
				w := busy(t, config)
				if got, want := w.do(t, s), n >= 0 && n < config.Parts; got != want {
					t.Fatalf("P22.1: of %+v the step %s tells %t", config, short(s), got)
				}
			}
			w := busy(t, config)
			if w.do(t, restart(n)) {
				t.Fatalf("P22.1: a restart of %d, which is not down, happened", n)
			}
		}
	}
}

// Whom Up, Live, Now, Kept and Lasts know.
func TestWhoIsAsked(t *testing.T) {
	c := made(t, four)
	does(t, "P22.1", c, true, write(0, both("1", "2")...), deliver(0), partTick(0), partTick(1), partTick(2), partTick(3))
	settle(t, c)
	for _, n := range append(hard, -3, -2, -1, 4, 5, 63, 64) {
		if c.Up(n) || c.Now(n) != 0 || len(c.Kept(n))+len(c.Lasts(n)) > 0 {
			t.Errorf("P22.1: a partition %d is told of", n)
		}
	}
	for _, n := range append(hard, -3, -2, -1, 2, 3, 15, 16) {
		if c.Live(n) {
			t.Errorf("P22.1: a client %d is live", n)
		}
	}
	for n := range 4 {
		if !c.Up(n) || c.Now(n) != 1 || len(c.Kept(n)) != 1-n/2 || len(c.Lasts(n)) != 1-n/2 {
			t.Errorf("P22.1: the partition %d: up %t, now %d, %s, %v", n, c.Up(n), c.Now(n), short(c.Kept(n)), c.Lasts(n))
		}
	}
}

// Places about the flight's ends, at flights of 0 to 5 frames.
func TestPlaces(t *testing.T) {
	for length := range 6 {
		for _, step := range []func(place int) api.Step{deliver, lose, twin} {
			for _, place := range append(numbersAbout(length), 1, 2, length/2) {
				w := newTwins(t, four)
				for i := range length {
					w.do(t, read(i%2, []string{"a", "b"}[i/2%2]))
				}
				if got, want := w.do(t, step(place)), place >= 0 && place < length; got != want {
					t.Fatalf("P22.1: of %d frames the step %s tells %t", length, short(step(place)), got)
				}
				w.settle(t)
			}
		}
	}
}

// garbage fills the fields that a kind of step doesn't name.
func garbage(g chance, s api.Step) api.Step {
	wild := func() int { return pick(g, append(hard, -1, 0, 1, 2, 3, 70)...) }
	named := map[int]string{stWrite: "node pairs", stRead: "node keys", stTick: "node", stStop: "node", stGive: "node n", stDeliver: "n", stLose: "n", stTwin: "n", stPart: "node", stCrash: "node n", stRestart: "node", stFull: "node n", stArm: "node n k"}[s.Kind]
	has := func(field string) bool { return slices.Contains(strings.Fields(named), field) }
	if !has("node") {
		s.Node = wild()
	}
	if !has("n") {
		s.N = wild()
	}
	if !has("k") {
		s.K = wild()
	}
	if !has("pairs") {
		s.Pairs = pick(g, nil, both("7", "8"), []api.Pair{pair("a", "1"), pair("a", "1")})
	}
	if !has("keys") {
		s.Keys = pick(g, nil, []string{"a", "b"}, []string{"a", "a"})
	}
	return s
}

// Fields that are not named are not looked at.
func TestFieldsThatAreNotNamed(t *testing.T) {
	g := newChance(2201)
	for range 60 {
		config := g.config()
		plain, filled := newTwins(t, config), made(t, config)
		for range 60 {
			s := g.step(plain.x)
			got := filled.Do(garbage(g, s))
			if want := plain.do(t, s); got != want {
				t.Fatalf("P22.1: %+v, behind %s: with other fields filled it tells %t", config, script(plain.did), got)
			}
			if diff := toldBy(filled, config).unlike(plain.seen); diff != "" {
				t.Fatalf("P22.1: %+v, behind %s, other fields filled: %s", config, script(plain.did), diff)
			}
		}
	}
}

// Requests.

// What is given stands in the history as it was given, of refused ones too.
func TestAsGiven(t *testing.T) {
	long := strings.Repeat("x", 65536)
	many := make([]api.Pair, 1025)
	names := make([]string, 1025)
	for i := range many {
		many[i] = pair(fmt.Sprint("k", i), "v")
		names[i] = many[i].Key
	}
	c := made(t, four)
	txn := 0
	for _, pairs := range [][]api.Pair{nil, {}, {pair("b", "2"), pair("a", "1")}, {pair("a", "1"), pair("a", "1")}, {pair("", "")}, {pair("\x00\xff", "\xfe")}, {pair(long, "")}, {pair("a", long)}, {pair(long[:65535], "")}, many, many[:1024]} {
		good := len(pairs) > 0 && len(pairs) < 1025 && !slices.ContainsFunc(pairs, func(p api.Pair) bool { return len(p.Key) > 65535 || len(p.Value) > 65535 }) &&
			!slices.Equal(pairs, []api.Pair{pair("a", "1"), pair("a", "1")})
		does(t, "P22.5", c, true, write(0, pairs...))
		txn++
		if !good {
			flies(t, "P22.5: a refused write", c)
			happens(t, "P22.5", c, api.Event{Kind: evWrite, Client: 0, Txn: txn, Pairs: pairs}, answered(0, api.Answer{Txn: txn, Result: rsInvalid}))
			continue
		}
		h := c.History()
		if e := h[len(h)-1]; e.Kind != evWrite || e.Txn != txn || e.ID == 0 || !slices.Equal(e.Pairs, pairs) {
			t.Fatalf("P22.5: a write stands in the history as %s", short(e))
		}
		settle(t, c)
		ends(t, "P22.1", c, 0, txn, rsOK)
	}
	for i, keys := range [][]string{nil, {}, {"b", "a"}, {"a", "a"}, {""}, {"\xff"}, {long}, {long[:65535]}, names, names[:1024]} {
		does(t, "P22.5", c, true, read(1, keys...))
		if i == 2 || i == 4 || i == 5 || i == 7 || i == 9 {
			happens(t, "P22.5", c, api.Event{Kind: evRead, Client: 1, Txn: i + 1, Keys: keys})
			settle(t, c)
			ends(t, "P22.1", c, 1, i+1, rsOK)
			continue
		}
		flies(t, "P22.5: a refused read", c)
		happens(t, "P22.5", c, api.Event{Kind: evRead, Client: 1, Txn: i + 1, Keys: keys}, answered(1, api.Answer{Txn: i + 1, Result: rsInvalid}))
	}
}

// The 65th that is pending is refused; once one is answered there is room.
func TestSixtyFive(t *testing.T) {
	c := made(t, four)
	for i := range maxPending {
		does(t, "P22.5", c, true, read(0, []string{"a", "b"}[i%2]))
	}
	if n := len(c.Flight()); n != maxPending {
		t.Fatalf("P22.1: %d frames are under way", n)
	}
	does(t, "P22.5", c, true, read(0, "a"))
	happens(t, "P22.5", c, api.Event{Kind: evRead, Client: 0, Txn: 65, Keys: []string{"a"}}, answered(0, api.Answer{Txn: 65, Result: rsInvalid}))
	does(t, "P22.5", c, true, write(0, both("1", "2")...))
	happens(t, "P22.5", c, answered(0, api.Answer{Txn: 66, Result: rsInvalid}))
	if n := len(c.Flight()); n != maxPending {
		t.Fatalf("P22.5: %d frames are under way", n)
	}
	does(t, "P22.5", c, true, write(1, both("1", "2")...), give(0, 7), read(0, "a"))
	happens(t, "P22.5", c, answered(0, api.Answer{Txn: 7, Result: rsAborted}), api.Event{Kind: evRead, Client: 0, Txn: 67, Keys: []string{"a"}})
	settle(t, c)
	for txn := 1; txn <= 67; txn++ {
		want := rsOK
		switch txn {
		case 7:
			want = rsAborted
		case 65, 66:
			want = rsInvalid
		}
		ends(t, "P22.5", c, 0, txn, want)
	}
}

func TestGive(t *testing.T) {
	c := made(t, four)
	does(t, "P22.1", c, true, write(0, both("1", "2")...), read(0, "a"), read(0))
	for _, txn := range append(hard, -1, 0, 3, 4) {
		does(t, "P22.1: not pending", c, false, give(0, txn), give(1, txn))
	}
	does(t, "P22.1: another's", c, false, give(1, 1))
	does(t, "P22.1", c, true, give(0, 1))
	happens(t, "P22.1", c, answered(0, api.Answer{Txn: 1, Result: rsAborted, ID: 65536}))
	does(t, "P22.1", c, true, give(0, 2))
	happens(t, "P22.1", c, answered(0, api.Answer{Txn: 2, Result: rsAborted}))
	does(t, "P22.1: given up already", c, false, give(0, 1), give(0, 2))
	settle(t, c)
	ends(t, "P22.5", c, 0, 1, rsAborted)
	ends(t, "P22.5", c, 0, 2, rsAborted)
	reads(t, "P22.2", c, 1, []string{"a", "b"}, "-", "-")

	does(t, "P22.1", c, true, write(0, both("3", "4")...))
	does(t, "P22.1", c, true, times(4, deliver(0))...)
	flies(t, "P22.1", c, msCommit, msCommit)
	does(t, "P22.1", c, true, give(0, 4))
	happens(t, "P22.1", c, answered(0, api.Answer{Txn: 4, Result: rsUnknown, ID: 131072}))
	settle(t, c)
	ends(t, "P22.5", c, 0, 4, rsUnknown)
	reads(t, "P22.2: its commits were under way", c, 1, []string{"a", "b"}, "3", "4")
}

// A client that was stopped does nothing; what it sent goes on its way, what is sent to it is lost.
func TestStopped(t *testing.T) {
	w := newTwins(t, four)
	w.run(t, write(0, both("1", "2")...), write(1, both("3", "4")...), deliver(0), stop(0))
	for _, s := range []api.Step{stop(0), tick(0), give(0, 1), write(0, both("5", "6")...), read(0, "a"), read(0)} {
		if w.do(t, s) {
			t.Fatalf("P22.1: the step %s of a client that was stopped happened", short(s))
		}
	}
	if w.c.Live(0) || !w.c.Live(1) {
		t.Fatal("P22.1: Live behind a stop")
	}
	w.settle(t)
	c := w.c
	ends(t, "P22.1", c, 0, 1, 0)
	ends(t, "P22.1", c, 1, 1, rsOK)
	if k, l := c.Kept(1), c.Lasts(1); len(k) != 2 || !slices.Equal(l, []api.Last{{Key: "b", ID: 65537}}) {
		t.Fatalf("P22.1: the stopped client's prepare of b did not come: %s, %v", short(k), l)
	}
	w.run(t, read(1, "a", "b"))
	w.settle(t)
	w.run(t, stop(1), read(1, "a"))
	w.run(t, times(3, deliver(0))...)
}

// Partitions that are down.

func TestDown(t *testing.T) {
	w := newTwins(t, four)
	w.run(t, write(0, both("1", "2")...))
	w.settle(t)
	w.run(t, partTick(0), partTick(0), crash(0, 0))
	c := w.c
	if c.Up(0) || c.Now(0) != 0 || len(c.Kept(0))+len(c.Lasts(0)) > 0 || !c.Up(1) || len(c.Kept(1)) != 1 {
		t.Fatalf("P22.1: behind the crash of 0 up are %t and %t", c.Up(0), c.Up(1))
	}
	for _, s := range []api.Step{crash(0, 0), crash(0, 7), partTick(0)} {
		if w.do(t, s) {
			t.Fatalf("P22.1: the step %s of a partition that is down happened", short(s))
		}
	}
	w.run(t, write(1, both("3", "4")...), read(1, "a"), deliver(0), deliver(1))
	flies(t, "P22.1: what is delivered to a partition that is down is lost", c, msPrepare)
	w.run(t, deliver(0), deliver(0), restart(0))
	if !c.Up(0) || c.Now(0) != 0 || !slices.Equal(c.Lasts(0), []api.Last{{Key: "a", ID: 65536}}) {
		t.Fatalf("P22.1: behind the restart up is %t, now %d, the lasts are %v", c.Up(0), c.Now(0), c.Lasts(0))
	}
	if w.do(t, restart(0)) {
		t.Fatal("P22.1: a restart of a partition that is up happened")
	}
	w.run(t, tick(1))
	w.settle(t)
	reads(t, "P22.2", c, 0, []string{"a", "b"}, "3", "4")
}

// Refusals are the disk's: they stay over crashes, and may be told to one that is down.
func TestFull(t *testing.T) {
	prepareIs := func(what string, w *twins, kind int) {
		t.Helper()
		w.run(t, write(0, pair("a", "1")), deliver(0))
		flies(t, what, w.c, kind)
		w.settle(t)
	}
	for _, down := range []bool{false, true} {
		w := newTwins(t, small)
		if down {
			w.run(t, crash(0, 0), full(0, 2), restart(0))
		} else {
			w.run(t, full(0, 2), crash(0, 0), restart(0))
		}
		prepareIs("P22.1: Full(2)", w, msNack)
		prepareIs("P22.1: Full(2)", w, msNack)
		prepareIs("P22.1: Full(2), the third", w, msPrepared)
		w.run(t, full(0, 5), full(0, math.MinInt))
		prepareIs("P22.1: Full below 0", w, msPrepared)
		w.run(t, full(0, 1), full(0, 0))
		prepareIs("P22.1: Full(0)", w, msPrepared)
		w.run(t, full(0, math.MaxInt), crash(0, 0), full(0, 0), restart(0))
		prepareIs("P22.1: Full(0) of one that is down", w, msPrepared)
	}
}

// A nack is not the end: the client's tick asks anew, of a prepare and of a commit.
func TestNack(t *testing.T) {
	c := made(t, small)
	does(t, "P22.1", c, true, full(0, 1), write(0, both("1", "2")...), deliver(0))
	flies(t, "P22.1", c, msNack)
	does(t, "P22.1", c, true, deliver(0))
	flies(t, "P22.1", c)
	does(t, "P22.1", c, true, tick(0), deliver(0), deliver(0), full(0, 1), deliver(0))
	flies(t, "P22.1", c, msNack)
	does(t, "P22.1", c, true, deliver(0))
	if len(c.Lasts(0)) > 0 {
		t.Fatalf("P22.1: refused, and yet the lasts are %v", c.Lasts(0))
	}
	does(t, "P22.1", c, true, tick(0))
	settle(t, c)
	ends(t, "P22.3", c, 0, 1, rsOK)
}

// The power.

// committing is a cluster of one partition in which a commit of a=1, b=2 is under way.
func committing(t *testing.T, config api.Config) *twins {
	t.Helper()
	w := newTwins(t, config)
	w.run(t, write(0, both("1", "2")...), deliver(0), deliver(0))
	flies(t, "P22.1", w.c, msCommit)
	return w
}

// Off at each call of a prepare's and of a commit's, with each number of bytes staying.
func TestPowerInHandle(t *testing.T) {
	for n := range 4 {
		for keep := -1; keep <= prepareRow+1; keep++ {
			what := fmt.Sprintf("P22.1: armed with %d, %d bytes stay", n, keep)
			w := newTwins(t, small)
			w.run(t, arm(0, n, keep), write(0, both("1", "2")...), deliver(0))
			if n >= 2 {
				flies(t, what, w.c, msPrepared)
				continue
			}
			flies(t, what, w.c)
			if w.c.Up(0) {
				t.Fatalf("%s: the partition is up", what)
			}
			w.run(t, restart(0))
			if got, want := len(w.c.Kept(0)), keep >= prepareRow && n == 1; got == 2 != want || got == 1 || len(w.c.Lasts(0)) > 0 {
				t.Fatalf("%s: behind the restart there are %s", what, short(w.c.Kept(0)))
			}
			w.run(t, tick(0))
			w.settle(t)
			ends(t, what, w.c, 0, 1, rsOK)
		}
		for keep := -1; keep <= commitRow+1; keep++ {
			what := fmt.Sprintf("P22.1: a commit, armed with %d, %d bytes stay", n, keep)
			w := committing(t, small)
			w.run(t, arm(0, n, keep), deliver(0))
			if n >= 2 {
				flies(t, what, w.c, msCommitted)
				continue
			}
			flies(t, what, w.c)
			w.run(t, restart(0))
			if got, want := len(w.c.Lasts(0)), keep >= commitRow && n == 1; got == 2 != want || got == 1 || len(w.c.Kept(0)) != 2 {
				t.Fatalf("%s: behind the restart the lasts are %v", what, w.c.Lasts(0))
			}
			w.run(t, tick(0))
			w.settle(t)
			ends(t, what, w.c, 0, 1, rsOK)
		}
	}
}

// What makes no call of the disk leaves it armed.
func TestArmedMeanwhile(t *testing.T) {
	w := committing(t, small)
	w.run(t, arm(0, 0, 0), read(1, "a"), deliver(1))
	if !w.c.Up(0) {
		t.Fatal("P22.1: a MsLatest called the disk")
	}
	w.run(t, partTick(0), deliver(1))
	if !w.c.Up(0) || len(w.c.Kept(0)) != 2 {
		t.Fatal("P22.1: a tick without compaction, or what tells something, called the disk")
	}
	w.run(t, deliver(0))
	if w.c.Up(0) {
		t.Fatal("P22.1: a commit did not call the disk")
	}
	w.run(t, restart(0), arm(0, 3, 0), arm(0, -1, 0), tick(0))
	w.settle(t)
	ends(t, "P22.1", w.c, 0, 1, rsOK)
}

// A crash takes the arming with it, and so does a restart: Up of the disk disarms it.
func TestArmedDown(t *testing.T) {
	for n := range 12 {
		for _, keep := range []int{-1, 0, 9, 1 << 20} {
			w := committing(t, api.Config{Parts: 1, Clients: 2, Compact: 1})
			if n%2 == 0 {
				w.run(t, partTick(0)) // with a snapshot there is one call more in an Open
			}
			w.run(t, arm(0, n, keep), crash(0, keep), arm(0, n, keep), restart(0))
			if !w.c.Up(0) || len(w.c.Kept(0)) != 2 {
				t.Fatalf("P22.1: armed with %d while it was down: up is %t, there are %s", n, w.c.Up(0), short(w.c.Kept(0)))
			}
			w.settle(t)
			ends(t, "P22.1", w.c, 0, 1, rsOK)
			w.run(t, partTick(0), partTick(0))
			reads(t, "P22.1", w.c, 1, []string{"a", "b"}, "1", "2")
		}
	}
}

// Off at each call of a compaction, with few or many bytes staying: all that was there is there.
func TestPowerInTick(t *testing.T) {
	const most = 12
	offs := 0
	for _, compacted := range []int{0, 1, 2} {
		for n := range most {
			for _, keep := range []int{0, 1, 30, 80, 1 << 20} {
				what := fmt.Sprintf("P22.1: compacted %d times, armed with %d, %d bytes stay", compacted, n, keep)
				w := committing(t, api.Config{Parts: 1, Clients: 2, Retain: 10, Compact: 16})
				for range compacted {
					w.run(t, partTick(0))
					w.settle(t)
					w.run(t, write(0, both("3", "4")...), deliver(0), deliver(0))
				}
				kept, lasts := w.c.Kept(0), w.c.Lasts(0)
				if !w.do(t, arm(0, n, keep)) || !w.do(t, partTick(0)) {
					t.Fatalf("%s: the tick did not happen", what)
				}
				if !w.c.Up(0) {
					offs++
					if w.do(t, partTick(0)) || w.do(t, crash(0, 0)) {
						t.Fatalf("%s: the partition is down, and up", what)
					}
					w.run(t, restart(0))
				}
				if k := w.c.Kept(0); len(k) != len(kept) || !slices.Equal(w.c.Lasts(0), lasts) {
					t.Fatalf("%s: there are %s, %v; were %s, %v", what, short(k), w.c.Lasts(0), short(kept), lasts)
				}
				w.run(t, arm(0, -1, 0), partTick(0), tick(0))
				w.settle(t)
				w.run(t, crash(0, 0), restart(0))
				ends(t, what, w.c, 0, compacted+1, rsOK)
			}
		}
	}
	// Six calls of the disk the first time: List, Append, Sync, Rename, Delete, Read.
	if offs < 3*6*5 {
		t.Errorf("the power went off in a tick %d times", offs)
	}
}

// A compaction without room is no fault: the log goes on.
func TestNoRoomInTick(t *testing.T) {
	w := committing(t, api.Config{Parts: 1, Clients: 2, Retain: 10, Compact: 1})
	w.run(t, full(0, 1), partTick(0))
	if !w.c.Up(0) || w.c.Now(0) != 1 || len(w.c.Kept(0)) != 2 {
		t.Fatalf("P22.1: a tick without room: up is %t, now %d", w.c.Up(0), w.c.Now(0))
	}
	w.run(t, partTick(0), crash(0, 0), restart(0))
	w.settle(t)
	ends(t, "P22.1", w.c, 0, 1, rsOK)
}

// Ticks of a partition: what is old goes when it has been so for Retain of them, without a restart between.
func TestRetain(t *testing.T) {
	for _, retain := range []int64{0, 1, 3} {
		w := newTwins(t, api.Config{Parts: 1, Clients: 1, Retain: retain})
		w.run(t, write(0, pair("a", "1")))
		w.settle(t)
		w.run(t, partTick(0), write(0, pair("a", "2")))
		w.settle(t)
		for n := range max(retain, 1) - 1 {
			w.run(t, partTick(0))
			if len(w.c.Kept(0)) != 2 || w.c.Now(0) != 2+n {
				t.Fatalf("P22.1: Retain %d, at %d there are %s", retain, w.c.Now(0), short(w.c.Kept(0)))
			}
		}
		w.run(t, crash(0, 0), restart(0))
		for range max(retain, 1) {
			if len(w.c.Kept(0)) != 2 {
				t.Fatalf("P22.1: Retain %d, at %d behind a restart there are %s", retain, w.c.Now(0), short(w.c.Kept(0)))
			}
			w.run(t, partTick(0))
		}
		if len(w.c.Kept(0)) != 1 || w.c.Now(0) != max(retain, 1) {
			t.Fatalf("P22.1: Retain %d, at %d there are %s", retain, w.c.Now(0), short(w.c.Kept(0)))
		}
	}
}

// Frames.

// What was lost was never delivered; a twin is a frame by itself, with a number of its own.
func TestLoseAndTwin(t *testing.T) {
	c := made(t, four)
	does(t, "P22.1", c, true, write(0, both("1", "2")...), twin(1), lose(1), twin(0), deliver(0), lose(1))
	var got []int
	for _, f := range c.Flight() {
		got = append(got, f.Number)
	}
	if !slices.Equal(got, []int{3, 5}) {
		t.Fatalf("P22.6: under way are the frames %v", got)
	}
	flies(t, "P22.1", c, msPrepare, msPrepared)
	does(t, "P22.1", c, true, deliver(0))
	settle(t, c)
	ends(t, "P22.1", c, 0, 1, rsOK)
}

// The read of the document's example 6: a value fetched by its ID, and of its example 10: one that is gone.
func TestTornApart(t *testing.T) {
	torn := func() *cluster.Cluster {
		c := made(t, four)
		does(t, "P22.2", c, true, write(0, both("1", "2")...))
		settle(t, c)
		does(t, "P22.2", c, true, write(0, both("3", "4")...))
		does(t, "P22.2", c, true, times(4, deliver(0))...)
		flies(t, "P22.2", c, msCommit, msCommit)
		does(t, "P22.2", c, true, deliver(0), read(1, "b", "a"))
		// The commit of b stays behind; a's answer, the questions and their answers go.
		does(t, "P22.2", c, true, deliver(1), deliver(1), deliver(1), deliver(1), deliver(1))
		flies(t, "P22.2", c, msCommit, msByID)
		if m := c.Flight()[1].Message; !slices.Equal(m.Wants, []api.Want{{Key: "b", ID: 131072}}) {
			t.Fatalf("P22.2: wanted is %s", short(m))
		}
		return c
	}
	c := torn()
	does(t, "P22.2", c, true, deliver(1), deliver(1))
	if a := ends(t, "P22.2", c, 1, 1, rsOK); len(a.Versions) != 2 || a.Versions[0].Value != "4" || a.Versions[1].Value != "3" {
		t.Fatalf("P22.2: the read tells %s", short(a))
	}

	c = torn()
	does(t, "P22.2", c, true, deliver(0), write(0, both("5", "6")...))
	for len(c.Flight()) > 1 { // all but the question by name
		n := slices.IndexFunc(c.Flight(), func(f cluster.Frame) bool { return f.Message.Kind != msByID })
		does(t, "P22.2", c, true, deliver(n))
	}
	does(t, "P22.2", c, true, times(9, partTick(1))...)
	does(t, "P22.2", c, true, twin(0), deliver(0))
	flies(t, "P22.2", c, msByID, msVersions)
	if m := c.Flight()[1].Message; m.Versions[0].ID != 131072 || m.Versions[0].Value != "4" {
		t.Fatalf("P22.2: ahead of the tenth tick is told %s", short(m))
	}
	does(t, "P22.2", c, true, lose(1), partTick(1))
	settle(t, c)
	ends(t, "P22.2", c, 1, 1, rsStale)
}
