package part

import (
	"encoding/binary"
	"fmt"
	"hash/crc32"
	"hash/fnv"
	"maps"
	"math"
	"math/rand"
	"runtime"
	"slices"
	"strings"
	"testing"

	"rampart/api"
	"rampart/boot"
	"rampart/disk"
	"rampart/msg"
)

// The document's numbers, not api's.
const (
	kPrepare   = 1
	kCommit    = 2
	kLatest    = 3
	kByID      = 4
	kPrepared  = 5
	kCommitted = 6
	kVersions  = 7
	kNack      = 8

	one       = api.ID(65536)  // client 0's first write
	two       = api.ID(131072) // its second
	three     = api.ID(196608) // and its third
	lastID    = api.ID(1<<64 - 1)
	maxTick   = int64(1) << 40
	maxRetain = int64(1) << 20
	maxParts  = 64
	maxFiles  = 16
	longest   = 1048576 // bytes of a record's payload

	errArg     = api.Errno(1)
	errLong    = api.Errno(3)
	errNoSpace = api.Errno(60)
	errFile    = api.Errno(61)
	errDown    = api.Errno(62)
	errCorrupt = api.Errno(140)
)

// ten is the config of the chapter's examples.
var ten = api.Config{Parts: 1, Retain: 10}

// Records and snapshots as bytes, laid apart from the layers below.

func be32(b []byte, n int) []byte { return binary.BigEndian.AppendUint32(b, uint32(n)) }

func be64(b []byte, n uint64) []byte { return binary.BigEndian.AppendUint64(b, n) }

func text(b []byte, s string) []byte { return append(be32(b, len(s)), s...) }

func texts(b []byte, l []string) []byte {
	b = be32(b, len(l))
	for _, s := range l {
		b = text(b, s)
	}
	return b
}

func crc(b []byte) int { return int(crc32.ChecksumIEEE(b)) }

// prepareRow and commitRow are the bytes of a record.
func prepareRow(m api.Message) []byte {
	b := be32(be64([]byte{1}, uint64(m.ID)), len(m.Pairs))
	for _, p := range m.Pairs {
		b = text(text(b, p.Key), p.Value)
	}
	return logged(texts(b, m.Keys))
}

func commitRow(id api.ID) []byte { return logged(be64([]byte{2}, uint64(id))) }

func logged(payload []byte) []byte {
	return append(be32(be32(nil, len(payload)), crc(payload)), payload...)
}

// image is a snapshot, with its checksum.
func image(gen int64, s told) []byte {
	b := be64([]byte("ramp\x01"), uint64(gen))
	b = be32(b, len(s.lasts))
	for _, l := range s.lasts {
		b = be64(text(b, l.Key), uint64(l.ID))
	}
	b = be32(b, len(s.kept))
	for _, k := range s.kept {
		v := k.Version
		b = texts(text(be64(text(b, v.Key), uint64(v.ID)), v.Value), v.Keys)
	}
	return be32(b, crc(b))
}

func logName(gen int64) string { return fmt.Sprintf("log.%d", gen) }

// Messages.

func list(keys ...string) []string { return keys }

func pair(key, value string) api.Pair { return api.Pair{Key: key, Value: value} }

func prepare(id api.ID, keys []string, pairs ...api.Pair) api.Message {
	return api.Message{Kind: kPrepare, Client: 3, Req: 7, ID: id, Keys: keys, Pairs: pairs}
}

// puts is a prepare of one key with one value.
func puts(id api.ID, key, value string) api.Message { return prepare(id, list(key), pair(key, value)) }

func commit(id api.ID) api.Message { return api.Message{Kind: kCommit, Client: 3, Req: 8, ID: id} }

func latest(keys ...string) api.Message {
	return api.Message{Kind: kLatest, Client: 4, Req: 9, Keys: keys}
}

func want(key string, id api.ID) api.Want { return api.Want{Key: key, ID: id} }

func byID(wants ...api.Want) api.Message {
	return api.Message{Kind: kByID, Client: 5, Req: 10, Wants: wants}
}

// ack is what goes back behind a message of a write.
func ack(kind int, m api.Message) api.Message {
	return api.Message{Kind: kind, Client: m.Client, Req: m.Req, ID: m.ID}
}

// tells is what goes back behind a question: one message for each version.
func tells(m api.Message, versions ...api.Version) []api.Message {
	var out []api.Message
	for _, v := range versions {
		out = append(out, api.Message{Kind: kVersions, Client: m.Client, Req: m.Req, Versions: []api.Version{v}})
	}
	return out
}

func version(key string, id api.ID, value string, keys ...string) api.Version {
	return api.Version{Key: key, ID: id, Value: value, Keys: keys}
}

func bottom(key string) api.Version { return api.Version{Key: key} }

func sameVersion(a, b api.Version) bool {
	return a.Key == b.Key && a.ID == b.ID && a.Value == b.Value && slices.Equal(a.Keys, b.Keys)
}

func sameMessage(a, b api.Message) bool {
	return a.Kind == b.Kind && a.Client == b.Client && a.Req == b.Req && a.ID == b.ID && slices.Equal(a.Pairs, b.Pairs) &&
		slices.Equal(a.Keys, b.Keys) && slices.Equal(a.Wants, b.Wants) && slices.EqualFunc(a.Versions, b.Versions, sameVersion)
}

func sameMessages(a, b []api.Message) bool { return slices.EqualFunc(a, b, sameMessage) }

// copyOf shares nothing with a message.
func copyOf(m api.Message) api.Message {
	m.Pairs, m.Keys, m.Wants, m.Versions = slices.Clone(m.Pairs), slices.Clone(m.Keys), slices.Clone(m.Wants), slices.Clone(m.Versions)
	for i := range m.Versions {
		m.Versions[i].Keys = slices.Clone(m.Versions[i].Keys)
	}
	return m
}

// short tells a thing, but not all of a long one.
func short(x any) string {
	s := fmt.Sprintf("%+v", x)
	if len(s) > 1500 {
		return s[:1400] + " and on, " + fmt.Sprint(len(s)) + " signs in all"
	}
	return s
}

// What a partition tells, beside what goes back.

type told struct {
	kept  []api.Kept
	lasts []api.Last
}

type state struct {
	now, gen int64
	log      int
	told     told
}

func stateOf(p *Part) state {
	return state{p.Now(), p.Gen(), p.Log(), told{p.Kept(), p.Lasts()}}
}

func sameKept(a, b api.Kept) bool { return a.Stamp == b.Stamp && sameVersion(a.Version, b.Version) }

func sameTold(a, b told) bool {
	return slices.Equal(a.lasts, b.lasts) && slices.EqualFunc(a.kept, b.kept, sameKept)
}

func sameState(a, b state) bool {
	return a.now == b.now && a.gen == b.gen && a.log == b.log && sameTold(a.told, b.told)
}

// Disks.

func lookAt(d *disk.Disk) string {
	var s strings.Builder
	names, err := d.List()
	fmt.Fprintln(&s, len(names), err)
	for _, name := range names {
		b, err := d.Read(name)
		fmt.Fprintf(&s, "%q %q %d\n", name, b, err)
	}
	return s.String()
}

// dissect tells all of a disk: whether it is down, what it is armed with, its refusals, and which bytes are synced. It is of no use then.
func dissect(d *disk.Disk) string {
	var s strings.Builder
	fmt.Fprint(&s, d.Down(), " ")
	for range maxFiles + 10 {
		_, err := d.List()
		fmt.Fprint(&s, int(err), " ")
	}
	d.Up()
	s.WriteString(lookAt(d))
	// To a file that is there: there may be as many as a disk has.
	probe := "probe"
	if names, _ := d.List(); len(names) > 0 {
		probe = names[0]
	}
	for range 5 {
		fmt.Fprint(&s, int(d.Append(probe, []byte("p"))), " ")
	}
	crashed(d, 0)
	s.WriteString(lookAt(d))
	return s.String()
}

func crashed(d *disk.Disk, keep int) {
	d.Crash(keep)
	d.Up()
}

// lay puts a file on a disk, synced.
func lay(t *testing.T, d *disk.Disk, name string, b []byte) {
	t.Helper()
	if d.Append(name, b) != 0 || d.Sync(name) != 0 {
		t.Fatalf("the test's file %q isn't laid", name)
	}
}

// calls is how many counted calls of a disk f makes; the power is on again then, and nothing was lost.
func calls(d *disk.Disk, f func()) int {
	const most = 1000
	d.Arm(most, math.MaxInt)
	f()
	left := 0
	for !d.Down() {
		d.List()
		left++
	}
	d.Up()
	return most - (left - 1)
}

func listIs(t *testing.T, what string, d *disk.Disk, want ...string) {
	t.Helper()
	if l, err := d.List(); err != 0 || !slices.Equal(l, want) {
		t.Fatalf("%s: the disk has %q, %d, want %q", what, l, err, want)
	}
}

func fileIs(t *testing.T, what string, d *disk.Disk, name string, want []byte) {
	t.Helper()
	if b, err := d.Read(name); err != 0 || !slices.Equal(b, want) {
		t.Fatalf("%s: the file %q is %s, %d, want %s", what, name, short(b), err, short(want))
	}
}

// Calls.

func opened(t *testing.T, what string, d *disk.Disk, index int, c api.Config) *Part {
	t.Helper()
	p, err := Open(d, index, c)
	if err != 0 || p == nil || p.Now() != 0 {
		t.Fatalf("%s: Open: %d", what, err)
	}
	return p
}

// again is the partition behind a crash.
func again(t *testing.T, what string, d *disk.Disk, keep int, c api.Config) *Part {
	t.Helper()
	crashed(d, keep)
	return opened(t, what, d, 0, c)
}

func handles(t *testing.T, what string, p *Part, m api.Message, want ...api.Message) {
	t.Helper()
	got, err := p.Handle(m)
	if err != 0 || !sameMessages(got, want) {
		t.Fatalf("%s: Handle(%s) = %s, %d, want %s", what, short(m), short(got), err, short(want))
	}
}

// writes prepares and commits.
func writes(t *testing.T, what string, p *Part, m api.Message) {
	t.Helper()
	handles(t, what, p, m, ack(kPrepared, m))
	c := commit(m.ID)
	handles(t, what, p, c, ack(kCommitted, c))
}

// refuses is Handle that answers an error, and changes nothing.
func refuses(t *testing.T, what string, p *Part, m api.Message, want api.Errno) {
	t.Helper()
	was := stateOf(p)
	got, err := p.Handle(m)
	if err != want || len(got) > 0 {
		t.Fatalf("%s: Handle(%s) = %s, %d, want the error %d", what, short(m), short(got), err, want)
	}
	if is := stateOf(p); !sameState(is, was) {
		t.Fatalf("%s: behind the error %d of %s there is %s, was %s", what, err, short(m), short(is), short(was))
	}
}

func ticks(t *testing.T, what string, p *Part, n int) {
	t.Helper()
	for range n {
		now := p.Now()
		if err := p.Tick(); err != 0 || p.Now() != now+1 {
			t.Fatalf("%s: Tick at %d = %d, now it is %d", what, now, err, p.Now())
		}
	}
}

// Examples.

func firstWrite() api.Message {
	return api.Message{Kind: kPrepare, Client: 0, Req: 1, ID: 65536, Pairs: []api.Pair{{Key: "a", Value: "1"}, {Key: "b", Value: "2"}}, Keys: list("a", "b")}
}

func exampleOne(t *testing.T) *Part {
	t.Helper()
	p := opened(t, "P16.1", disk.New(), 0, ten)
	handles(t, "P16.1", p, firstWrite(), api.Message{Kind: kPrepared, Client: 0, Req: 1, ID: 65536})
	handles(t, "P16.1", p, latest("a"), tells(latest("a"), bottom("a"))...)
	handles(t, "P16.1", p, commit(65536), ack(kCommitted, commit(65536)))
	handles(t, "P16.1", p, latest("b", "a"), tells(latest(), version("b", 65536, "2", "a", "b"), version("a", 65536, "1", "a", "b"))...)
	handles(t, "P16.1", p, byID(want("a", 65536)), tells(byID(), version("a", 65536, "1", "a", "b"))...)
	handles(t, "P16.1", p, byID(want("a", 131072)), tells(byID(), bottom("a"))...)
	return p
}

func TestExampleOne(t *testing.T) { exampleOne(t) }

func TestExampleTwo(t *testing.T) {
	p := exampleOne(t)
	writes(t, "P16.1", p, puts(131072, "a", "3"))
	handles(t, "P16.1", p, latest("a"), tells(latest(), version("a", 131072, "3", "a"))...)
	for tick := 1; tick <= 12; tick++ {
		ticks(t, "P16.1", p, 1)
		told := version("a", 65536, "1", "a", "b")
		if tick >= 10 {
			told = bottom("a")
		}
		handles(t, fmt.Sprint("P16.5: tick ", tick), p, byID(want("a", 65536)), tells(byID(), told)...)
		handles(t, "P16.5", p, latest("b"), tells(latest(), version("b", 65536, "2", "a", "b"))...)
	}
}

func TestExampleThree(t *testing.T) {
	d := disk.New()
	p := opened(t, "P16.1", d, 0, ten)
	d.Full(1)
	handles(t, "P16.1", p, firstWrite(), ack(kNack, firstWrite()))
	listIs(t, "P16.1", d)
	if p.Log() != 0 || len(p.Kept()) != 0 {
		t.Fatalf("P16.1: behind a nack there is %+v", stateOf(p))
	}
	handles(t, "P16.1", p, firstWrite(), ack(kPrepared, firstWrite()))
	d.Arm(1, 0)
	refuses(t, "P16.1", p, puts(131072, "a", "3"), 62)
	d.Up()
	p = opened(t, "P16.2", d, 0, ten)
	handles(t, "P16.2", p, byID(want("a", 131072), want("b", 65536)), tells(byID(), bottom("a"), version("b", 65536, "2", "a", "b"))...)
}

func TestExampleFour(t *testing.T) {
	d := disk.New()
	p := opened(t, "P16.1", d, 0, api.Config{Parts: 4, Retain: 10})
	for _, m := range []api.Message{firstWrite(), prepare(one, list("a", "b"), pair("b", "2"))} {
		refuses(t, "P16.1", p, m, 1)
	}
	refuses(t, "P16.1: it lacks one", opened(t, "P16.1", disk.New(), 0, ten), prepare(one, list("a", "b"), pair("a", "1")), 1)
	handles(t, "P16.1", p, commit(65536), ack(kCommitted, commit(65536)))
	refuses(t, "P16.1", p, api.Message{Kind: kPrepared, Req: 1, ID: 65536}, 1)
	listIs(t, "P16.1", d)
}

// Open.

func wrongOpens() []struct {
	index int
	c     api.Config
} {
	return []struct {
		index int
		c     api.Config
	}{
		{0, api.Config{}}, {0, api.Config{Parts: -1}}, {-1, api.Config{Parts: -1}}, {0, api.Config{Parts: math.MinInt}}, {0, api.Config{Parts: 65}}, {64, api.Config{Parts: 65}},
		{0, api.Config{Parts: math.MaxInt}}, {-1, api.Config{Parts: 1}}, {1, api.Config{Parts: 1}}, {64, api.Config{Parts: 64}}, {math.MaxInt, api.Config{Parts: 64}}, {math.MinInt, api.Config{Parts: 64}},
		{0, api.Config{Parts: 1, Retain: -1}}, {0, api.Config{Parts: 1, Retain: math.MinInt64}}, {0, api.Config{Parts: 1, Retain: 1<<20 + 1}}, {0, api.Config{Parts: 1, Retain: math.MaxInt64}},
		{0, api.Config{Parts: 1, Compact: -1}}, {0, api.Config{Parts: 1, Compact: math.MinInt}}, {2, api.Config{Parts: 2, Retain: -1, Compact: -1}},
	}
}

// A wrong argument comes ahead of all that the disk would say, and it makes no call of it.
func TestOpenArguments(t *testing.T) {
	for i, w := range wrongOpens() {
		for what, ahead := range map[string]func(d *disk.Disk){
			"as it is": func(d *disk.Disk) {},
			"armed":    func(d *disk.Disk) { d.Arm(0, 3) },
			"down":     func(d *disk.Disk) { d.Crash(1) },
			"spoilt":   func(d *disk.Disk) { d.Append("snap", []byte("x")) },
		} {
			d, twin := disk.New(), disk.New()
			for _, x := range []*disk.Disk{d, twin} {
				lay(t, x, "log.3", []byte("left over"))
				ahead(x)
			}
			if p, err := Open(d, w.index, w.c); p != nil || err != errArg {
				t.Errorf("P16.1: row %d, %s: Open = %v, %d", i, what, p, err)
			}
			if a, b := dissect(d), dissect(twin); a != b {
				t.Errorf("P16.1: row %d, %s: behind ErrArg the disk is\n%s\nwant\n%s", i, what, a, b)
			}
		}
		if p, err := Open(nil, w.index, w.c); p != nil || err != errArg {
			t.Errorf("P16.1: row %d without a disk: %v, %d", i, p, err)
		}
	}
	if p, err := Open(nil, 0, ten); p != nil || err != errArg {
		t.Errorf("P16.1: without a disk: %v, %d", p, err)
	}
}

// What may be: the edges, and whatever stands in the fields that are not looked at.
func TestOpenTakes(t *testing.T) {
	for _, c := range []api.Config{
		{Parts: 1}, {Parts: 64}, {Parts: 3, Retain: maxRetain}, {Parts: 3, Compact: math.MaxInt}, {Parts: 3, Compact: 1},
		{Parts: 2, Clients: -9, First: math.MaxUint64}, {Parts: 2, Clients: math.MaxInt}, {Parts: 2, Clients: 16, First: 1 << 48},
	} {
		for index := range c.Parts {
			d := disk.New()
			p := opened(t, fmt.Sprint("P16.1: ", c), d, index, c)
			if s := stateOf(p); !sameState(s, state{}) {
				t.Errorf("P16.1: %+v: a new partition has %+v", c, s)
			}
			listIs(t, "P16.1", d)
		}
	}
}

func TestOpenErrors(t *testing.T) {
	for _, b := range [][]byte{nil, []byte("x"), image(1, told{})[:24], image(0, told{})} {
		d := disk.New()
		lay(t, d, "snap", b)
		lay(t, d, "log.0", commitRow(one))
		was := lookAt(d)
		if p, err := Open(d, 0, ten); p != nil || err != errCorrupt {
			t.Errorf("P16.1: with the snapshot %q: %v, %d", b, p, err)
		}
		if is := lookAt(d); is != was {
			t.Errorf("P16.1: behind ErrCorrupt the disk is\n%s\nwant\n%s", is, was)
		}
	}
	// List, Read of the snapshot, Delete of what is left over, Read of the log, Cut of its torn end.
	for n := range 6 {
		d := disk.New()
		lay(t, d, "snap", image(4, told{}))
		lay(t, d, "log.3", nil)
		lay(t, d, "log.4", append(prepareRow(puts(one, "a", "1")), "torn"...))
		d.Arm(n, 0)
		p, err := Open(d, 0, ten)
		if n < 5 && (p != nil || err != errDown) || n == 5 && (p == nil || err != 0) {
			t.Errorf("P16.1: armed with %d: %v, %d", n, p, err)
		}
		d.Up()
		p = opened(t, "P16.2", d, 0, ten)
		handles(t, "P16.2", p, byID(want("a", one)), tells(byID(), version("a", one, "1", "a"))...)
		if p.Gen() != 4 || p.Log() != len(prepareRow(puts(one, "a", "1"))) {
			t.Errorf("P16.1: Open tells %+v", stateOf(p))
		}
	}
}

// Behind Open all that is old has the stamp 0, the tick of then.
func TestOpenBeginsAtNull(t *testing.T) {
	d := disk.New()
	p := opened(t, "P16.1", d, 0, ten)
	writes(t, "P16.1", p, firstWrite())
	ticks(t, "P16.1", p, 5)
	writes(t, "P16.1", p, puts(two, "a", "3"))
	if k := p.Kept(); len(k) != 3 || k[0].Stamp != 5 {
		t.Fatalf("P16.1: there is %+v", k)
	}
	ticks(t, "P16.1", p, 9)
	p = again(t, "P16.5", d, 0, ten)
	if k := p.Kept(); len(k) != 3 || k[0].Stamp != 0 || k[1].Stamp != -1 || k[2].Stamp != -1 {
		t.Fatalf("P16.1: behind Open there is %+v", k)
	}
	ticks(t, "P16.5", p, 9)
	handles(t, "P16.5", p, byID(want("a", one)), tells(byID(), version("a", one, "1", "a", "b"))...)
	ticks(t, "P16.5", p, 1)
	handles(t, "P16.5", p, byID(want("a", one)), tells(byID(), bottom("a"))...)
}

// Which messages may be.

// placeOf is a key's partition, by a hash that isn't the program's.
func placeOf(key string, parts int) int {
	h := fnv.New64a()
	h.Write([]byte(key))
	return int(h.Sum64() % uint64(parts))
}

// some is keys of all partitions, rising.
func some() []string {
	keys := list("", "\x00", "a", "aa", "b", "\xff", strings.Repeat("k", 300))
	for i := range 150 {
		keys = append(keys, fmt.Sprint("key ", i))
	}
	slices.Sort(keys)
	return keys
}

// owned is which of the keys a partition has, and which it hasn't.
func owned(keys []string, index, parts int) (own, others []string) {
	for _, key := range keys {
		if placeOf(key, parts) == index {
			own = append(own, key)
		} else {
			others = append(others, key)
		}
	}
	return own, others
}

func pairsOf(keys []string) []api.Pair {
	var out []api.Pair
	for _, key := range keys {
		out = append(out, pair(key, "of "+key[:min(len(key), 9)]))
	}
	return out
}

func wantsOf(keys []string, id api.ID) []api.Want {
	var out []api.Want
	for _, key := range keys {
		out = append(out, want(key, id))
	}
	return out
}

// put is a list with one more, in order.
func put(keys []string, key string) []string {
	out := append(slices.Clone(keys), key)
	slices.Sort(out)
	return out
}

func TestOwnKeys(t *testing.T) {
	keys := some()
	for _, parts := range []int{1, 2, 3, 4, 7, 63, 64} {
		for index := range parts {
			what := fmt.Sprint("P16.1: partition ", index, " of ", parts)
			own, others := owned(keys, index, parts)
			p := opened(t, what, disk.New(), index, api.Config{Parts: parts})
			if len(own) == 0 {
				refuses(t, what, p, prepare(one, keys), errArg)
				continue
			}
			for i := range own {
				refuses(t, what+": one is missing", p, prepare(one, keys, pairsOf(slices.Delete(slices.Clone(own), i, i+1))...), errArg)
			}
			for _, key := range others {
				refuses(t, what+": one is another's", p, prepare(one, keys, pairsOf(put(own, key))...), errArg)
				refuses(t, what+": only others'", p, prepare(one, others, pairsOf(list(key))...), errArg)
				refuses(t, what, p, latest(key), errArg)
				refuses(t, what, p, latest(append(slices.Clone(own), key)...), errArg)
				refuses(t, what, p, latest(append(list(key), own...)...), errArg)
				refuses(t, what, p, byID(want(key, one)), errArg)
				refuses(t, what, p, byID(wantsOf(append(slices.Clone(own), key), one)...), errArg)
				refuses(t, what, p, byID(wantsOf(append(list(key), own...), one)...), errArg)
			}
			writes(t, what, p, prepare(one, keys, pairsOf(own)...))
			slices.Reverse(own)
			var versions []api.Version
			for _, pair := range pairsOf(own) {
				versions = append(versions, version(pair.Key, one, pair.Value, keys...))
			}
			handles(t, what, p, latest(own...), tells(latest(), versions...)...)
			handles(t, what, p, byID(wantsOf(own, one)...), tells(byID(), versions...)...)
		}
	}
}

// wrongMessages is messages that msg.May refuses, or whose kind no partition takes, for one that has all keys.
func wrongMessages() []api.Message {
	long := strings.Repeat("k", 65536)
	many := make([]string, 1025)
	for i := range many {
		many[i] = fmt.Sprintf("%05d", i)
	}
	v := version("a", one, "1", "a")
	out := []api.Message{
		prepare(one, nil), prepare(one, list("a")), prepare(one, nil, pair("a", "1")), prepare(one, list("b", "a"), pair("a", ""), pair("b", "")), prepare(one, list("a", "b"), pair("b", ""), pair("a", "")),
		prepare(one, list("a", "a"), pair("a", "")), prepare(one, list("a"), pair("a", ""), pair("a", "")), prepare(one, list("a"), pair("b", "")), prepare(one, list("a"), pair("a", ""), pair("b", "")),
		prepare(one, list(long), pair(long, "")), prepare(one, list("a"), pair("a", long)), prepare(one, many, pairsOf(many)...), prepare(0, list("a"), pair("a", "")), prepare(65535, list("a"), pair("a", "")),
		commit(0), commit(1), commit(65535), latest(), latest("a", "a"), latest("a", "b", "a"), latest(long), latest(many...),
		byID(), byID(want("a", 0)), byID(want("a", 65535)), byID(want("a", one), want("a", two)), byID(want(long, one)), byID(wantsOf(many, one)...),
		{}, {Req: 1}, {Kind: -1, Req: 1}, {Kind: 9, Req: 1, ID: one}, {Kind: kPrepare, Req: 1}, {Kind: kPrepare + 256, Req: 1, ID: one}, {Kind: math.MaxInt, Req: 1}, {Kind: math.MinInt, Req: 1},
		{Kind: kPrepared, Req: 1, ID: one}, {Kind: kCommitted, Req: 1, ID: one}, {Kind: kNack, Req: 1, ID: one}, {Kind: kVersions, Req: 1, Versions: []api.Version{v}}, {Kind: kVersions, Req: 1, Versions: []api.Version{bottom("a")}},
	}
	for _, right := range rightMessages() {
		for _, spoil := range []func(m *api.Message){
			func(m *api.Message) { m.Client = -1 }, func(m *api.Message) { m.Client = 16 }, func(m *api.Message) { m.Client = math.MaxInt }, func(m *api.Message) { m.Client = math.MinInt }, func(m *api.Message) { m.Req = 0 },
			func(m *api.Message) { m.Versions = []api.Version{v} },
		} {
			m := copyOf(right)
			spoil(&m)
			out = append(out, m)
		}
		for field, spoil := range []func(m *api.Message){
			func(m *api.Message) { m.ID = one }, func(m *api.Message) { m.Keys = list("a") },
			func(m *api.Message) { m.Pairs = []api.Pair{pair("a", "1")} }, func(m *api.Message) { m.Wants = []api.Want{want("a", one)} },
		} {
			m := copyOf(right)
			spoil(&m)
			has := [][]int{kPrepare: {0, 1, 2}, kCommit: {0}, kLatest: {1}, kByID: {3}}[m.Kind]
			if !slices.Contains(has, field) {
				out = append(out, m)
			}
		}
	}
	return out
}

func rightMessages() []api.Message {
	return []api.Message{puts(one, "a", "1"), puts(two, "a", "2"), commit(one), commit(two), commit(three), latest("a"), byID(want("a", one))}
}

func TestWrongMessages(t *testing.T) {
	for _, ready := range []bool{false, true} {
		for i, m := range wrongMessages() {
			d := disk.New()
			p := opened(t, "P16.1", d, 0, ten)
			if ready {
				writes(t, "P16.1", p, puts(one, "a", "1"))
				handles(t, "P16.1", p, puts(two, "a", "1"), ack(kPrepared, puts(two, "", "")))
			}
			was := lookAt(d)
			what := fmt.Sprint("P16.1: wrong message ", i)
			if n := calls(d, func() { refuses(t, what, p, m, errArg) }); n != 0 {
				t.Errorf("%s: %d calls of the disk", what, n)
			}
			// ErrArg is ahead of what the disk would say.
			d.Full(3)
			refuses(t, what, p, m, errArg)
			d.Full(0)
			if is := lookAt(d); is != was {
				t.Errorf("%s: the disk is %s, was %s", what, is, was)
			}
		}
	}
}

// Each client and each number comes back as it came; of the ID nothing else is asked than that it is one.
func TestWhoAsks(t *testing.T) {
	p := opened(t, "P16.1", disk.New(), 0, ten)
	n := api.ID(0)
	for client := range 16 {
		for _, req := range []uint64{1, 2, 255, 256, 65536, 1 << 32, 1<<63 - 1, 1 << 63, math.MaxUint64} {
			for _, id := range []api.ID{one, two + 5, lastID - 3000} {
				n++
				m := puts(id+n, "a", "x")
				m.Client, m.Req = client, req
				handles(t, "P16.1", p, m, api.Message{Kind: kPrepared, Client: client, Req: req, ID: id + n})
				handles(t, "P16.1", p, m, api.Message{Kind: kPrepared, Client: client, Req: req, ID: id + n})
				c := api.Message{Kind: kCommit, Client: client, Req: req, ID: id + n}
				handles(t, "P16.1", p, c, api.Message{Kind: kCommitted, Client: client, Req: req, ID: id + n})
				handles(t, "P16.1", p, c, api.Message{Kind: kCommitted, Client: client, Req: req, ID: id + n})
				q := api.Message{Kind: kByID, Client: client, Req: req, Wants: []api.Want{want("a", id+n), want("b", id)}}
				handles(t, "P16.1", p, q, tells(q, version("a", id+n, "x", "a"), bottom("b"))...)
				q = api.Message{Kind: kLatest, Client: client, Req: req, Keys: list("c", "d")}
				handles(t, "P16.1", p, q, tells(q, bottom("c"), bottom("d"))...)
			}
		}
	}
}

// Lengths.

// wide is a prepare whose record has a payload of so many bytes.
func wide(id api.ID, size int) api.Message {
	left := size - (1 + 8 + 4 + 4)
	m := prepare(id, nil)
	for i := 0; left > 0; i++ {
		key := fmt.Sprintf("%03d", i)
		// The pair's key and value, and the key once more.
		n := min(left-(7+4+7), 65535)
		if rest := left - (7 + 4 + n + 7); rest > 0 && rest < 7+4+7 {
			n -= 100
		}
		m.Keys = append(m.Keys, key)
		m.Pairs = append(m.Pairs, pair(key, strings.Repeat("v", n)))
		left -= 7 + 4 + n + 7
	}
	return m
}

func TestLong(t *testing.T) {
	for _, size := range []int{longest - 1, longest, longest + 1, longest + 2, longest + 10, 2 * longest, 20 * longest} {
		what := fmt.Sprint("P16.1: a record of ", size)
		m := wide(one, size)
		if n := len(prepareRow(m)) - 8; n != size || !msg.May(m) {
			t.Fatalf("the test's payload has %d bytes, want %d", n, size)
		}
		d := disk.New()
		p := opened(t, what, d, 0, ten)
		if size <= longest {
			handles(t, what, p, m, ack(kPrepared, m))
			fileIs(t, what, d, "log.0", prepareRow(m))
			p = again(t, what, d, 0, ten)
			handles(t, what, p, byID(want("000", one)), tells(byID(), version("000", one, m.Pairs[0].Value, m.Keys...))...)
			continue
		}
		// No call is made of it, and so the disk has nothing to refuse.
		d.Full(1)
		if n := calls(d, func() { refuses(t, what, p, m, errLong) }); n != 0 {
			t.Errorf("%s: %d calls of the disk", what, n)
		}
		listIs(t, what, d)
		handles(t, what, p, puts(one, "a", ""), ack(kNack, puts(one, "", "")))
		handles(t, what, p, puts(one, "a", ""), ack(kPrepared, puts(one, "", "")))
		// Once there is a version of it, nothing is logged.
		handles(t, what, p, m, ack(kPrepared, m))
	}
}

func TestManyKeys(t *testing.T) {
	var keys []string
	for i := range 1024 {
		keys = append(keys, fmt.Sprintf("%04d", i))
	}
	d := disk.New()
	p := opened(t, "P16.1", d, 0, ten)
	m := prepare(one, keys, pairsOf(keys)...)
	writes(t, "P16.1", p, m)
	var versions []api.Version
	for _, x := range m.Pairs {
		versions = append(versions, version(x.Key, one, x.Value, keys...))
	}
	for range 2 {
		handles(t, "P16.1", p, latest(keys...), tells(latest(), versions...)...)
		handles(t, "P16.1", p, byID(wantsOf(keys, one)...), tells(byID(), versions...)...)
		p = again(t, "P16.2", d, 0, ten)
	}
	great := strings.Repeat("g", 65535)
	writes(t, "P16.1", p, prepare(two, list("", great), pair("", great), pair(great, great)))
	handles(t, "P16.1", p, latest(great, ""), tells(latest(), version(great, two, great, "", great), version("", two, great, "", great))...)
}

// The disk.

// crowd lays other files till the disk has n.
func crowd(t *testing.T, d *disk.Disk, n int) {
	t.Helper()
	names, _ := d.List()
	for i := len(names); i < n; i++ {
		lay(t, d, fmt.Sprint("other", i), nil)
	}
}

// A disk on which the log's file can't be made says so ahead of having no room.
func TestAllFiles(t *testing.T) {
	d := disk.New()
	p := opened(t, "P16.1", d, 0, ten)
	crowd(t, d, maxFiles)
	d.Full(1)
	refuses(t, "P16.1", p, firstWrite(), errLong)
	handles(t, "P16.1", p, commit(one), ack(kCommitted, commit(one)))
	d.Delete("other3")
	handles(t, "P16.1", p, firstWrite(), ack(kNack, firstWrite()))
	handles(t, "P16.1", p, firstWrite(), ack(kPrepared, firstWrite()))
	writes(t, "P16.1", p, puts(two, "a", ""))
}

func TestCalls(t *testing.T) {
	d := disk.New()
	p := opened(t, "P16.1", d, 0, ten)
	count := func(what string, want int, f func()) {
		t.Helper()
		if n := calls(d, f); n != want {
			t.Errorf("P16.1: %s: %d calls of the disk, want %d", what, n, want)
		}
	}
	m := func(m api.Message) func() {
		return func() {
			t.Helper()
			if _, err := p.Handle(m); err != 0 {
				t.Fatalf("P16.1: Handle: %d", err)
			}
		}
	}
	count("commit of nothing", 0, m(commit(one)))
	count("prepare: Append, Sync", 2, m(firstWrite()))
	count("prepare again", 0, m(firstWrite()))
	count("prepare again, with other pairs", 0, m(puts(one, "z", "z")))
	count("latest", 0, m(latest("a", "b", "c")))
	count("by ID", 0, m(byID(want("a", one), want("b", two))))
	count("commit: Append, Sync", 2, m(commit(one)))
	count("commit again", 0, m(commit(one)))
	count("all that is told", 0, func() { stateOf(p) })
	count("ticks", 0, func() { ticks(t, "P16.1", p, 30) })
	d.Full(2)
	count("prepare without room: Append", 1, m(puts(two, "a", "")))
	d.Full(0)
	m(puts(two, "a", ""))()
	d.Full(1)
	count("commit without room: Append", 1, m(commit(two)))
	p = opened(t, "P16.1", d, 0, api.Config{Parts: 1, Compact: p.Log()})
	count("a tick by which nothing is too long", 0, func() { ticks(t, "P16.1", p, 1) })
	p = opened(t, "P16.1", d, 0, api.Config{Parts: 1, Compact: p.Log() - 1})
	count("a tick that compacts: List, Append, Sync, Rename, Delete, Read", 6, func() { ticks(t, "P16.1", p, 1) })
	count("the next one", 0, func() { ticks(t, "P16.1", p, 5) })
}

// Logged ahead of being told: what each crash leaves tells which calls of the disk these are, and that no other is between.
func TestLoggedFirst(t *testing.T) {
	m, c := firstWrite(), commit(one)
	row := slices.Concat(prepareRow(m), commitRow(one))
	for keep := range len(row) + 1 {
		for n := range 4 {
			d := disk.New()
			p := opened(t, "P16.1", d, 0, ten)
			d.Arm(n, keep)
			if n < 2 {
				refuses(t, "P16.1", p, m, errDown)
			} else {
				handles(t, "P16.1", p, m, ack(kPrepared, m))
				refuses(t, "P16.1", p, c, errDown)
			}
			// What stays behind the synced bytes: of the call's row, if its Append was done.
			first := len(prepareRow(m))
			lies := []int{0, min(keep, first), first, min(first+keep, len(row))}[n]
			d.Up()
			if n > 0 {
				fileIs(t, "P16.1", d, "log.0", row[:lies])
			}
			p = opened(t, "P16.2", d, 0, ten)
			there, last := lies >= first, lies == len(row)
			if (len(p.Kept()) == 2) != there || (len(p.Lasts()) == 2) != last || !there && len(p.Kept()) > 0 || !last && len(p.Lasts()) > 0 {
				t.Fatalf("P16.2: armed with %d, %d: %+v", n, keep, stateOf(p))
			}
			writes(t, "P16.3", p, m)
			fileIs(t, "P16.3", d, "log.0", row)
		}
	}
}

// No room: a nack, and nothing has changed; the same message later goes well.
func TestNack(t *testing.T) {
	for _, full := range []int{1, 2, 5} {
		d := disk.New()
		p := opened(t, "P16.1", d, 0, ten)
		for _, m := range []api.Message{firstWrite(), commit(one), puts(two, "a", ""), puts(three, "c", ""), commit(three), commit(two)} {
			was, disk := stateOf(p), lookAt(d)
			d.Full(full)
			for range full {
				handles(t, "P16.1", p, m, ack(kNack, m))
				if is := stateOf(p); !sameState(is, was) || lookAt(d) != disk {
					t.Fatalf("P16.1: behind a nack there is %+v, was %+v", is, was)
				}
				handles(t, "P16.1: what is told needs no room", p, latest("zz"), tells(latest(), bottom("zz"))...)
			}
			handles(t, "P16.1", p, m, ack(kPrepared+(m.Kind-kPrepare), m))
		}
		if n := len(again(t, "P16.2", d, 0, ten).Lasts()); n != 3 {
			t.Errorf("P16.2: %d lasts", n)
		}
	}
}

// Writes.

// Versions that came late, or partly, and writes of which some went.
func TestLate(t *testing.T) {
	d := disk.New()
	p := opened(t, "P16.1", d, 0, api.Config{Parts: 1, Retain: 2})
	m := prepare(two, list("a", "b"), pair("a", "m"), pair("b", "n"))
	handles(t, "P16.1", p, m, ack(kPrepared, m))
	writes(t, "P16.1", p, puts(three, "a", "3"))
	ticks(t, "P16.5", p, 2)
	handles(t, "P16.5", p, byID(wantsOf(list("a", "b"), two)...), tells(byID(), bottom("a"), version("b", two, "n", "a", "b"))...)
	// b's version is there: nothing is logged anew.
	log := p.Log()
	handles(t, "P16.1", p, m, ack(kPrepared, m))
	if p.Log() != log {
		t.Errorf("P16.1: the log has %d bytes, had %d", p.Log(), log)
	}
	handles(t, "P16.1", p, commit(two), ack(kCommitted, commit(two)))
	handles(t, "P16.4", p, latest("a", "b"), tells(latest(), version("a", three, "3", "a"), version("b", two, "n", "a", "b"))...)
	// Below the last from the beginning: old at once, committed already.
	late := puts(one, "a", "1")
	handles(t, "P16.1", p, late, ack(kPrepared, late))
	log = p.Log()
	handles(t, "P16.1", p, commit(one), ack(kCommitted, commit(one)))
	if k := p.Kept(); p.Log() != log || len(k) != 3 || k[0].Version.ID != one || k[0].Stamp != 2 {
		t.Errorf("P16.1: the log has %d bytes, had %d; there is %+v", p.Log(), log, k)
	}
	ticks(t, "P16.5", p, 1)
	handles(t, "P16.5", p, byID(want("a", one)), tells(byID(), version("a", one, "1", "a"))...)
	ticks(t, "P16.5", p, 1)
	handles(t, "P16.5", p, byID(want("a", one)), tells(byID(), bottom("a"))...)
	// Gone, and prepared once more: logged once more, since nothing of it is there.
	handles(t, "P16.1", p, late, ack(kPrepared, late))
	if p.Log() != log+len(prepareRow(late)) {
		t.Errorf("P16.1: the log has %d bytes, want %d", p.Log(), log+len(prepareRow(late)))
	}
	if k := p.Kept(); k[0].Version.ID != one || k[0].Stamp != 4 {
		t.Errorf("P16.1: there is %+v", k)
	}
}

// A write that is there counts, whatever another message says of it.
func TestFirstSaysIt(t *testing.T) {
	p := opened(t, "P16.1", disk.New(), 0, ten)
	m := firstWrite()
	handles(t, "P16.1", p, m, ack(kPrepared, m))
	was := stateOf(p)
	for _, other := range []api.Message{puts(one, "a", "other"), puts(one, "c", "other"), prepare(one, list("a", "b", "c"), pair("a", ""), pair("b", ""), pair("c", ""))} {
		handles(t, "P16.1", p, other, ack(kPrepared, other))
		if is := stateOf(p); !sameState(is, was) {
			t.Fatalf("P16.1: there is %+v, was %+v", is, was)
		}
	}
}

// Ticks.

func TestLastTick(t *testing.T) {
	d := disk.New()
	p := opened(t, "P16.1", d, 0, api.Config{Parts: 1, Compact: 1})
	writes(t, "P16.1", p, firstWrite())
	// So many ticks can't go by in a test.
	p.now = maxTick - 1
	ticks(t, "P16.1", p, 1)
	if p.Now() != maxTick || p.Gen() != 1 {
		t.Fatalf("P16.1: at the last tick there is %+v", stateOf(p))
	}
	writes(t, "P16.1", p, puts(two, "a", "3"))
	was, disk := stateOf(p), lookAt(d)
	if len(was.told.kept) != 3 || was.told.kept[0].Stamp != maxTick || was.log == 0 {
		t.Fatalf("P16.1: at the last tick there is %+v", was)
	}
	for range 3 {
		if n := calls(d, func() {
			if err := p.Tick(); err != errArg {
				t.Errorf("P16.1: Tick at the last one: %d", err)
			}
		}); n != 0 {
			t.Errorf("P16.1: a tick behind the last one makes %d calls", n)
		}
		if is := stateOf(p); !sameState(is, was) || lookAt(d) != disk {
			t.Errorf("P16.1: behind the last tick there is %+v, was %+v", is, was)
		}
	}
}

func TestRetentions(t *testing.T) {
	for _, retain := range []int64{0, 1, 2, 3, 10, 40, maxRetain} {
		for start := range 4 {
			what := fmt.Sprint("P16.5: retention ", retain, ", from ", start)
			p := opened(t, what, disk.New(), 0, api.Config{Parts: 1, Retain: retain})
			writes(t, what, p, firstWrite())
			handles(t, what, p, puts(lastID, "a", "prepared alone"), ack(kPrepared, puts(lastID, "", "")))
			ticks(t, what, p, start)
			writes(t, what, p, puts(two, "a", "3"))
			for tick := range min(int(max(retain, 1)), 50) {
				handles(t, fmt.Sprint(what, ", tick ", tick), p, byID(want("a", one)), tells(byID(), version("a", one, "1", "a", "b"))...)
				ticks(t, what, p, 1)
			}
			if retain > 50 {
				// So many ticks take too long here; the last ones count.
				p.now = int64(start) + retain - 1
				handles(t, what, p, byID(want("a", one)), tells(byID(), version("a", one, "1", "a", "b"))...)
				ticks(t, what, p, 1)
			}
			handles(t, what, p, byID(want("a", one)), tells(byID(), bottom("a"))...)
			ticks(t, what, p, 20)
			handles(t, what, p, byID(want("a", lastID), want("b", one)), tells(byID(), version("a", lastID, "prepared alone", "a"), version("b", one, "2", "a", "b"))...)
			handles(t, what, p, latest("a", "b"), tells(latest(), version("a", two, "3", "a"), version("b", one, "2", "a", "b"))...)
		}
	}
}

// Compaction.

// The log is given up just if it has more bytes than that.
func TestHowLong(t *testing.T) {
	m := firstWrite()
	size := len(prepareRow(m))
	for _, limit := range []int{0, 1, 17, size - 1, size, size + 1, size + 16, size + 17, math.MaxInt} {
		for _, done := range []bool{false, true} {
			d := disk.New()
			p := opened(t, "P16.1", d, 0, api.Config{Parts: 1, Retain: 10, Compact: limit})
			handles(t, "P16.1", p, m, ack(kPrepared, m))
			log := size
			if done {
				handles(t, "P16.1", p, commit(one), ack(kCommitted, commit(one)))
				log += 17
			}
			what := fmt.Sprint("P16.1: a log of ", log, ", Compact ", limit)
			kept := told{p.Kept(), p.Lasts()}
			ticks(t, what, p, 1)
			if limit == 0 || log <= limit {
				if p.Gen() != 0 || p.Log() != log {
					t.Errorf("%s: there is %+v", what, stateOf(p))
				}
				listIs(t, what, d, "log.0")
				continue
			}
			if p.Gen() != 1 || p.Log() != 0 {
				t.Errorf("%s: there is %+v", what, stateOf(p))
			}
			listIs(t, what, d, "snap")
			fileIs(t, what, d, "snap", image(1, kept))
			// From then on the new log is the one.
			writes(t, what, p, puts(two, "c", ""))
			fileIs(t, what, d, "log.1", slices.Concat(prepareRow(puts(two, "c", "")), commitRow(two)))
			if p.Log() != len(prepareRow(puts(two, "c", "")))+17 {
				t.Errorf("%s: the log has %d bytes", what, p.Log())
			}
		}
	}
}

// What was collected at that very tick is not in the snapshot.
func TestCollectedFirst(t *testing.T) {
	d := disk.New()
	c := api.Config{Parts: 1, Retain: 1, Compact: 1}
	p := opened(t, "P16.1", d, 0, c)
	writes(t, "P16.1", p, firstWrite())
	writes(t, "P16.1", p, puts(two, "a", "3"))
	ticks(t, "P16.1", p, 1)
	fileIs(t, "P16.1", d, "snap", image(1, told{p.Kept(), p.Lasts()}))
	if p.Gen() != 1 || len(p.Kept()) != 2 || len(again(t, "P16.2", d, 0, c).Kept()) != 2 {
		t.Errorf("P16.1: there is %+v", stateOf(p))
	}
}

// Without room the log goes on, and the next tick tries again.
func TestCompactionWithoutRoom(t *testing.T) {
	d := disk.New()
	c := api.Config{Parts: 1, Retain: 3, Compact: 20}
	p := opened(t, "P16.1", d, 0, c)
	writes(t, "P16.1", p, firstWrite())
	writes(t, "P16.1", p, puts(two, "a", "3"))
	for tick := range 4 {
		log := p.Log()
		d.Full(1)
		ticks(t, "P16.1", p, 1)
		if p.Gen() != 0 || p.Log() != log {
			t.Fatalf("P16.1: behind a tick without room there is %+v", stateOf(p))
		}
		// One more by each turn; by the third tick the old one goes.
		if n := len(p.Kept()); n != [...]int{3, 4, 4, 5}[tick] {
			t.Fatalf("P16.5: behind tick %d there is %+v", p.Now(), p.Kept())
		}
		// One refusal has gone: the next append finds room.
		m := puts(three+api.ID(tick), fmt.Sprint("k", tick), "")
		writes(t, "P16.1", p, m)
		listIs(t, "P16.1", d, "log.0")
	}
	was := told{p.Kept(), p.Lasts()}
	ticks(t, "P16.1", p, 1)
	listIs(t, "P16.1", d, "snap")
	fileIs(t, "P16.1", d, "snap", image(1, was))
	p = again(t, "P16.2", d, 0, c)
	if !sameTold(told{p.Kept(), p.Lasts()}, was) || p.Gen() != 1 {
		t.Errorf("P16.2: there is %+v, was %+v", stateOf(p), was)
	}
}

// An error that is answered: the tick has gone by all the same, with its collection, and the log goes on.
func TestCompactionRefused(t *testing.T) {
	for what, c := range map[string]struct {
		gen  int64
		want api.Errno
		lay  func(d *disk.Disk)
	}{
		"too many files":      {3, errLong, func(d *disk.Disk) { crowd(t, d, maxFiles) }},
		"the last generation": {maxTick, errArg, func(d *disk.Disk) {}},
		"beyond it":           {math.MaxInt64, errArg, func(d *disk.Disk) {}},
	} {
		d := disk.New()
		lay(t, d, "snap", image(c.gen, told{}))
		config := api.Config{Parts: 1, Retain: 1, Compact: 20}
		p := opened(t, what, d, 0, config)
		writes(t, what, p, firstWrite())
		writes(t, what, p, puts(two, "a", "3"))
		c.lay(d)
		for tick := range int64(3) {
			log := p.Log()
			if err := p.Tick(); err != c.want {
				t.Fatalf("P16.1: %s: Tick = %d, want %d", what, err, c.want)
			}
			if p.Now() != tick+1 || p.Gen() != c.gen || p.Log() != log || len(p.Kept()) != 2+int(tick) {
				t.Fatalf("P16.1: %s: there is %+v", what, stateOf(p))
			}
			writes(t, what, p, puts(three+api.ID(tick), fmt.Sprint("k", tick), ""))
		}
		q := again(t, what, d, 0, config)
		if len(q.Lasts()) != 5 || q.Gen() != c.gen || q.Log() != p.Log() {
			t.Errorf("P16.2: %s: there is %+v", what, stateOf(q))
		}
	}
	// The last generation but one can be given up.
	d := disk.New()
	lay(t, d, "snap", image(maxTick-1, told{}))
	p := opened(t, "P16.1", d, 0, api.Config{Parts: 1, Compact: 20})
	writes(t, "P16.1", p, firstWrite())
	ticks(t, "P16.1", p, 1)
	if p.Gen() != maxTick || p.Log() != 0 {
		t.Errorf("P16.1: there is %+v", stateOf(p))
	}
}

// The model: the chapter's words, done to a disk of its own. Of the layers below it leans on msg.May and boot.Open, which the chapter names.

type model struct {
	d        *disk.Disk
	index    int
	c        api.Config
	versions map[api.Want]api.Kept
	lasts    map[string]api.ID
	log      int
	gen, now int64
}

func openModel(d *disk.Disk, index int, c api.Config) (*model, api.Errno) {
	if d == nil || c.Parts < 1 || c.Parts > maxParts || index < 0 || index > c.Parts-1 || c.Retain < 0 || c.Retain > maxRetain || c.Compact < 0 {
		return nil, errArg
	}
	s, l, gen, err := boot.Open(d, 0)
	if err != 0 {
		return nil, err
	}
	x := &model{d, index, c, map[api.Want]api.Kept{}, map[string]api.ID{}, l.Size(), gen, 0}
	for _, k := range s.Kept() {
		x.versions[want(k.Version.Key, k.Version.ID)] = k
	}
	for _, l := range s.Lasts() {
		x.lasts[l.Key] = l.ID
	}
	return x, 0
}

func (x *model) may(m api.Message) bool {
	owns := func(key string) bool { return placeOf(key, x.c.Parts) == x.index }
	if !msg.May(m) || m.Kind > kByID {
		return false
	}
	for _, w := range m.Wants {
		if !owns(w.Key) {
			return false
		}
	}
	paired := map[string]int{}
	for _, p := range m.Pairs {
		if paired[p.Key]++; !owns(p.Key) {
			return false
		}
	}
	for _, key := range m.Keys {
		if m.Kind == kLatest && !owns(key) || m.Kind == kPrepare && owns(key) != (paired[key] == 1) {
			return false
		}
	}
	return true
}

// of is the keys that have a version of a write.
func (x *model) of(id api.ID) []string {
	var out []string
	for w := range x.versions {
		if w.ID == id {
			out = append(out, w.Key)
		}
	}
	return out
}

func (x *model) handle(m api.Message) ([]api.Message, api.Errno) {
	if !x.may(m) {
		return nil, errArg
	}
	switch m.Kind {
	case kPrepare:
		if len(x.of(m.ID)) > 0 {
			return []api.Message{ack(kPrepared, m)}, 0
		}
		return x.taken(m, prepareRow(m), kPrepared, x.put)
	case kCommit:
		open := func(key string) bool { return x.lasts[key] < m.ID }
		if !slices.ContainsFunc(x.of(m.ID), open) {
			return []api.Message{ack(kCommitted, m)}, 0
		}
		return x.taken(m, commitRow(m.ID), kCommitted, x.commit)
	case kLatest:
		var out []api.Version
		for _, key := range m.Keys {
			out = append(out, x.version(want(key, x.lasts[key])))
		}
		return tells(m, out...), 0
	}
	var out []api.Version
	for _, w := range m.Wants {
		out = append(out, x.version(w))
	}
	return tells(m, out...), 0
}

func (x *model) version(w api.Want) api.Version {
	if k, is := x.versions[w]; is {
		return k.Version
	}
	return bottom(w.Key)
}

func (x *model) taken(m api.Message, row []byte, kind int, take func(m api.Message)) ([]api.Message, api.Errno) {
	if len(row)-8 > longest {
		return nil, errLong
	}
	switch err := x.d.Append(logName(x.gen), row); err {
	case 0:
	case errNoSpace:
		return []api.Message{ack(kNack, m)}, 0
	default:
		return nil, err
	}
	if err := x.d.Sync(logName(x.gen)); err != 0 {
		return nil, err
	}
	x.log += len(row)
	take(m)
	return []api.Message{ack(kind, m)}, 0
}

func (x *model) put(m api.Message) {
	for _, p := range m.Pairs {
		k := api.Kept{Version: version(p.Key, m.ID, p.Value, m.Keys...), Stamp: -1}
		if m.ID < x.lasts[p.Key] {
			k.Stamp = x.now
		}
		x.versions[want(p.Key, m.ID)] = k
	}
}

func (x *model) commit(m api.Message) {
	for _, key := range x.of(m.ID) {
		x.lasts[key] = max(x.lasts[key], m.ID)
	}
	for w, k := range x.versions {
		if k.Stamp == -1 && w.ID < x.lasts[w.Key] {
			k.Stamp = x.now
			x.versions[w] = k
		}
	}
}

func (x *model) tick() api.Errno {
	if x.now == maxTick {
		return errArg
	}
	x.now++
	for w, k := range x.versions {
		if k.Stamp != -1 && k.Stamp <= x.now-x.c.Retain {
			delete(x.versions, w)
		}
	}
	if x.c.Compact == 0 || x.log <= x.c.Compact {
		return 0
	}
	if err := x.compact(); err != errNoSpace {
		return err
	}
	return 0
}

func (x *model) compact() api.Errno {
	if x.gen > maxTick-1 {
		return errArg
	}
	names, err := x.d.List()
	if err != 0 {
		return err
	}
	remove := func(name string) func() api.Errno {
		return func() api.Errno {
			if !slices.Contains(names, name) {
				return 0
			}
			return x.d.Delete(name)
		}
	}
	for _, step := range []func() api.Errno{
		remove("snap.tmp"),
		remove(logName(x.gen + 1)),
		func() api.Errno { return x.d.Append("snap.tmp", image(x.gen+1, x.told())) },
		func() api.Errno { return x.d.Sync("snap.tmp") },
		func() api.Errno { return x.d.Rename("snap.tmp", "snap") },
		remove(logName(x.gen)),
	} {
		if err := step(); err != 0 {
			return err
		}
	}
	if _, err := x.d.Read(logName(x.gen + 1)); err != errFile {
		return err
	}
	x.log, x.gen = 0, x.gen+1
	return 0
}

func (x *model) told() told {
	var out told
	for _, k := range x.versions {
		out.kept = append(out.kept, k)
	}
	slices.SortFunc(out.kept, func(a, b api.Kept) int {
		if n := strings.Compare(a.Version.Key, b.Version.Key); n != 0 || a.Version.ID == b.Version.ID {
			return n
		}
		if a.Version.ID < b.Version.ID {
			return -1
		}
		return 1
	})
	for _, key := range slices.Sorted(maps.Keys(x.lasts)) {
		out.lasts = append(out.lasts, api.Last{Key: key, ID: x.lasts[key]})
	}
	return out
}

func (x *model) state() state { return state{x.now, x.gen, x.log, x.told()} }

// Scripts.

// Kinds of steps: n and keep are those of the disk's calls.
const (
	sHandle = iota
	sTick
	sFull
	sArm
	sCrash
	sUp
	sOpen
)

type step struct {
	kind    int
	n, keep int
	m       api.Message
}

// twins is a partition and the model of it, each with its disk; neither is there while they are down.
type twins struct {
	index int
	c     api.Config
	d, e  *disk.Disk
	p     *Part
	x     *model
}

func newTwins(t *testing.T, index int, c api.Config) *twins {
	t.Helper()
	w := &twins{index: index, c: c, d: disk.New(), e: disk.New()}
	w.open(t, nil)
	return w
}

func (w *twins) open(t *testing.T, script []step) api.Errno {
	t.Helper()
	p, err := Open(w.d, w.index, w.c)
	x, bad := openModel(w.e, w.index, w.c)
	if err != bad || (p == nil) != (err != 0) {
		t.Fatalf("P16.1: Open = %v, %d, want %d, behind %s", p, err, bad, short(script))
	}
	w.p, w.x = p, x
	return err
}

// do tells the error that was answered, and the kinds of what went back.
func (w *twins) do(t *testing.T, script []step) (api.Errno, []int) {
	t.Helper()
	s := script[len(script)-1]
	var err api.Errno
	var kinds []int
	switch s.kind {
	case sHandle:
		err, kinds = w.handle(t, script)
	case sTick:
		if w.p == nil {
			break
		}
		var bad api.Errno
		if err, bad = w.p.Tick(), w.x.tick(); err != bad {
			t.Fatalf("P16.1: Tick = %d, want %d, behind %s", err, bad, short(script))
		}
	case sOpen:
		err = w.open(t, script)
	default:
		for _, d := range []*disk.Disk{w.d, w.e} {
			s.toDisk(d)
		}
	}
	if w.d.Down() != w.e.Down() {
		t.Fatalf("P16.1: the power is off: %v, want %v, behind %s", w.d.Down(), w.e.Down(), short(script))
	}
	// Of a partition whose disk's power went off nothing is promised.
	if w.d.Down() {
		w.p, w.x = nil, nil
	}
	if w.p != nil {
		if is, want := stateOf(w.p), w.x.state(); !sameState(is, want) {
			t.Fatalf("P16.1: there is %s, want %s, behind %s", short(is), short(want), short(script))
		}
	}
	return err, kinds
}

func (w *twins) handle(t *testing.T, script []step) (api.Errno, []int) {
	t.Helper()
	if w.p == nil {
		return 0, nil
	}
	m := script[len(script)-1].m
	got, err := w.p.Handle(m)
	want, bad := w.x.handle(m)
	if err != bad || !sameMessages(got, want) {
		t.Fatalf("P16.1: Handle = %s, %d, want %s, %d, behind %s", short(got), err, short(want), bad, short(script))
	}
	var kinds []int
	for _, m := range got {
		kinds = append(kinds, m.Kind)
	}
	return err, kinds
}

func (s step) toDisk(d *disk.Disk) {
	switch s.kind {
	case sFull:
		d.Full(s.n)
	case sArm:
		d.Arm(s.n, s.keep)
	case sCrash:
		d.Crash(s.keep)
	case sUp:
		d.Up()
	}
}

// end holds the disks against each other.
func (w *twins) end(t *testing.T, script []step) {
	t.Helper()
	if a, b := dissect(w.d), dissect(w.e); a != b {
		t.Fatalf("P16.1: the disk is\n%s\nwant\n%s\nbehind %s", short(a), short(b), short(script))
	}
}

func run(t *testing.T, index int, c api.Config, script []step) {
	t.Helper()
	w := newTwins(t, index, c)
	for i := range script {
		w.do(t, script[:i+1])
	}
	w.end(t, script)
}

// scripts calls f with every script of n steps.
func scripts(steps []step, n int, f func(script []step)) {
	script := make([]step, n)
	var fill func(at int)
	fill = func(at int) {
		if at == n {
			f(slices.Clone(script))
			return
		}
		for _, s := range steps {
			script[at] = s
			fill(at + 1)
		}
	}
	fill(0)
}

func handleSteps(l ...api.Message) []step {
	var out []step
	for _, m := range l {
		out = append(out, step{kind: sHandle, m: m})
	}
	return out
}

// Every script of a few steps.
func TestShortScripts(t *testing.T) {
	ab := prepare(one, list("a", "b"), pair("a", "1"), pair("b", "2"))
	steps := append(handleSteps(ab, puts(two, "a", "3"), commit(one), commit(two)), step{kind: sTick}, step{kind: sFull, n: 1})
	for n := range 6 {
		scripts(steps, n, func(script []step) {
			for _, c := range []api.Config{{Parts: 1, Retain: 1, Compact: 30}, {Parts: 1}, {Parts: 1, Retain: 2}} {
				run(t, 0, c, script)
			}
		})
	}
}

// The same with the power going off: behind each arming, each way to come back.
func TestShortScriptsWithCrashes(t *testing.T) {
	steps := append(handleSteps(puts(one, "a", "1"), puts(two, "a", "2"), commit(one), commit(two)),
		step{kind: sTick}, step{kind: sArm, n: 1, keep: 21}, step{kind: sArm, n: 1, keep: 1000}, step{kind: sArm, n: 3}, step{kind: sCrash})
	back := []step{{kind: sUp}, {kind: sOpen}, {kind: sTick}}
	for n := range 5 {
		scripts(steps, n, func(script []step) {
			run(t, 0, api.Config{Parts: 1, Retain: 1, Compact: 30}, append(append(script, back...), script...))
		})
	}
}

// Things of chance.

type chance struct{ *rand.Rand }

func newChance(seed int) chance { return chance{rand.New(rand.NewSource(int64(seed)))} }

func pick[T any](c chance, l ...T) T { return l[c.Intn(len(l))] }

// universe is the keys of chance.
func universe() []string { return list("", "\x00", "a", "a\x00", "b", "c", "d", "e", "\xff") }

func (c chance) keys(from []string) []string {
	var out []string
	for len(out) == 0 {
		for _, key := range from {
			if c.Intn(3) == 0 {
				out = append(out, key)
			}
		}
	}
	return out
}

func (c chance) id() api.ID {
	if c.Intn(20) == 0 {
		return pick(c, 1<<32, 1<<48, 1<<63-1, 1<<63, lastID-1, lastID)
	}
	return api.ID(1+c.Intn(8))<<16 + api.ID(c.Intn(3))
}

func (c chance) text() string {
	b := make([]byte, c.Intn(12))
	c.Read(b)
	return string(b)
}

// message is one that may be for this partition, but for a write none of whose keys is its own.
func (c chance) message(index, parts int) api.Message {
	own, _ := owned(universe(), index, parts)
	m := api.Message{Client: c.Intn(16), Req: 1 + c.Uint64()%9}
	kind := c.Intn(8)
	if len(own) == 0 {
		kind = 4
	}
	switch {
	case kind < 4:
		m.Kind, m.ID, m.Keys = kPrepare, c.id(), c.keys(universe())
		mine, _ := owned(m.Keys, index, parts)
		for _, key := range mine {
			m.Pairs = append(m.Pairs, pair(key, c.text()))
		}
	case kind < 6:
		m.Kind, m.ID = kCommit, c.id()
	case kind < 7:
		m.Kind, m.Keys = kLatest, c.keys(own)
		c.Shuffle(len(m.Keys), func(i, j int) { m.Keys[i], m.Keys[j] = m.Keys[j], m.Keys[i] })
	default:
		m.Kind = kByID
		for _, key := range c.keys(own) {
			m.Wants = append(m.Wants, want(key, c.id()))
		}
		c.Shuffle(len(m.Wants), func(i, j int) { m.Wants[i], m.Wants[j] = m.Wants[j], m.Wants[i] })
	}
	return m
}

// spoilt is a message with a field or two changed.
func (c chance) spoilt(m api.Message) api.Message {
	m = copyOf(m)
	for range 1 + c.Intn(2) {
		switch c.Intn(8) {
		case 0:
			m.Kind = c.Intn(12) - 1
		case 1:
			m.Client = c.Intn(40) - 10
		case 2:
			m.Req = c.Uint64() % 2
		case 3:
			m.ID = pick(c, 0, 65535, one, lastID)
		case 4:
			m.Keys = pick(c, nil, c.keys(universe()), list("b", "a"), list("a", "a"))
		case 5:
			m.Pairs = pick(c, nil, pairsOf(c.keys(universe())), []api.Pair{pair("b", ""), pair("a", "")})
		case 6:
			m.Wants = pick(c, nil, wantsOf(c.keys(universe()), c.id()), wantsOf(list("a", "a"), one))
		case 7:
			m.Versions = []api.Version{pick(c, bottom("a"), version("a", one, "", "a"))}
		}
	}
	return m
}

func (c chance) config() (int, api.Config) {
	parts := pick(c, 1, 1, 2, 3, 4, 64)
	own := placeOf(pick(c, universe()...), parts)
	return own, api.Config{Parts: parts, Retain: c.Int63n(6), Compact: pick(c, 0, 1, 17, 60, 200, 1000), Clients: c.Intn(9) - 3, First: c.Uint64()}
}

func (c chance) step(index, parts int) step {
	switch k := c.Intn(40); {
	case k < 22:
		return step{kind: sHandle, m: c.message(index, parts)}
	case k < 25:
		return step{kind: sHandle, m: c.spoilt(c.message(index, parts))}
	case k < 32:
		return step{kind: sTick}
	case k < 33:
		return step{kind: sFull, n: c.Intn(4) - 1}
	case k < 35:
		return step{kind: sArm, n: c.Intn(12) - 2, keep: c.Intn(200) - 20}
	case k < 36:
		return step{kind: sCrash, keep: c.Intn(50)}
	case k < 38:
		return step{kind: sUp}
	}
	return step{kind: sOpen}
}

func (c chance) script(index, parts, n int) []step {
	var out []step
	for range n {
		s := c.step(index, parts)
		out = append(out, s)
		// To be down for long tells little.
		if s.kind == sCrash {
			out = append(out, step{kind: sUp}, step{kind: sArm, n: c.Intn(9) - 4, keep: c.Intn(60)}, step{kind: sOpen})
		}
	}
	return out
}

func TestScriptsByChance(t *testing.T) {
	errs, kinds := map[api.Errno]int{}, map[int]int{}
	for seed := range 4000 {
		c := newChance(seed)
		index, config := c.config()
		script := c.script(index, config.Parts, 10+c.Intn(100))
		w := newTwins(t, index, config)
		for i := range script {
			err, back := w.do(t, script[:i+1])
			errs[err]++
			for _, k := range back {
				kinds[k]++
			}
		}
		w.end(t, script)
	}
	for _, err := range []api.Errno{0, errArg, errDown} {
		if errs[err] < 300 {
			t.Errorf("the test's scripts are answered %v", errs)
		}
	}
	for _, kind := range []int{kPrepared, kCommitted, kVersions, kNack} {
		if kinds[kind] < 300 {
			t.Errorf("the test's scripts are answered %v", kinds)
		}
	}
}

// The promises P16.2 to P16.5, watched from outside: nothing here hangs on the model.

// watched is a partition, and what it has answered for.
type watched struct {
	t        *testing.T
	what     string
	d        *disk.Disk
	index    int
	c        api.Config
	p        *Part
	prepared map[api.Want]api.Version // of writes that were answered MsPrepared
	asked    map[api.Want]api.Version // of all that were asked
	lasts    map[string]api.ID        // the greatest that was answered MsCommitted, or told as a last
	since    map[api.Want]int64       // the tick of this life at which a version was first seen old
	armed    bool                     // the disk: then no other arming may come between
	gone     map[api.Want]int         // what went by a tick and has not come back
}

func watch(t *testing.T, what string, index int, c api.Config) *watched {
	t.Helper()
	w := &watched{t: t, what: what, d: disk.New(), index: index, c: c, prepared: map[api.Want]api.Version{}, asked: map[api.Want]api.Version{}, lasts: map[string]api.ID{}, gone: map[api.Want]int{}}
	w.opens()
	return w
}

func (w *watched) fail(form string, a ...any) {
	w.t.Helper()
	w.t.Fatalf("%s: %s", w.what, fmt.Sprintf(form, a...))
}

// opens takes the partition up, the disk's power being on.
func (w *watched) opens() {
	w.t.Helper()
	p, err := Open(w.d, w.index, w.c)
	if err != 0 {
		w.fail("Open: %d", err)
	}
	w.p, w.since = p, map[api.Want]int64{}
	w.holds("P16.2: behind Open")
}

func (w *watched) kept() map[api.Want]api.Kept {
	out := map[api.Want]api.Kept{}
	for _, k := range w.p.Kept() {
		out[want(k.Version.Key, k.Version.ID)] = k
	}
	return out
}

func (w *watched) lastOf() map[string]api.ID {
	out := map[string]api.ID{}
	for _, l := range w.p.Lasts() {
		out[l.Key] = l.ID
	}
	return out
}

// holds looks whether all that was answered for is there, and takes down what is seen.
func (w *watched) holds(promise string) {
	w.t.Helper()
	kept, lasts := w.kept(), w.lastOf()
	for key, id := range w.lasts {
		if lasts[key] < id {
			w.fail("%s: P16.4: the last of %q is %d, was %d", promise, key, lasts[key], id)
		}
	}
	maps.Copy(w.lasts, lasts)
	for x, v := range w.prepared {
		k, is := kept[x]
		_, went := w.gone[x]
		if !is && (!went || x.ID >= lasts[x.Key]) || is && !sameVersion(k.Version, v) {
			w.fail("%s: %v is %+v, %v, want %+v", promise, x, k.Version, is, v)
		}
		if is {
			delete(w.gone, x)
		}
	}
	for x, k := range kept {
		if !sameVersion(w.asked[x], k.Version) {
			w.fail("%s: there is %+v, asked was %+v", promise, k.Version, w.asked[x])
		}
		w.prepared[x] = k.Version
		if _, seen := w.since[x]; !seen && x.ID < lasts[x.Key] {
			w.since[x] = w.p.Now()
		}
	}
	own, _ := owned(universe(), w.index, w.c.Parts)
	for _, key := range own {
		v := bottom(key)
		if lasts[key] > 0 {
			v = kept[want(key, lasts[key])].Version
		}
		handles(w.t, w.what+": P16.4", w.p, latest(key), tells(latest(), v)...)
	}
}

// write is the contents of a write: they hang on its ID alone, as clients' do.
func (w *watched) write(id api.ID) api.Message {
	c := newChance(int(id % 1000003))
	m := prepare(id, c.keys(universe()))
	own, _ := owned(m.Keys, w.index, w.c.Parts)
	for _, key := range own {
		m.Pairs = append(m.Pairs, pair(key, fmt.Sprint(id, " of ", key)))
	}
	return m
}

// handle takes a message that may be: false, if the power went off.
func (w *watched) handle(m api.Message) bool {
	w.t.Helper()
	if m.Kind == kPrepare {
		for _, p := range m.Pairs {
			w.asked[want(p.Key, m.ID)] = version(p.Key, m.ID, p.Value, m.Keys...)
		}
	}
	before := w.kept()
	got, err := w.p.Handle(m)
	if err == errDown && len(got) == 0 && w.d.Down() {
		return false
	}
	if err != 0 || len(got) == 0 {
		w.fail("Handle(%+v) = %+v, %d", m, got, err)
	}
	w.answered(m, got[0].Kind, before)
	now := w.kept()
	for x := range before {
		if _, is := now[x]; !is {
			w.fail("P16.5: %v went by %+v", x, m)
		}
	}
	w.holds("P16.2")
	if got[0].Kind != kNack && !w.armed {
		w.twice(m, got)
	}
	return true
}

// answered takes down what the partition has answered for.
func (w *watched) answered(m api.Message, kind int, before map[api.Want]api.Kept) {
	switch kind {
	case kPrepared:
		for _, p := range m.Pairs {
			x := want(p.Key, m.ID)
			w.prepared[x] = w.asked[x]
		}
	case kCommitted:
		for x := range before {
			if x.ID == m.ID {
				w.lasts[x.Key] = max(w.lasts[x.Key], x.ID)
			}
		}
	}
}

// twice: once is often. No call of the disk is made then: its power would go off by it.
func (w *watched) twice(m api.Message, was []api.Message) {
	w.t.Helper()
	before := stateOf(w.p)
	w.d.Arm(0, math.MaxInt)
	got, err := w.p.Handle(m)
	w.d.Arm(-1, 0)
	if is := stateOf(w.p); w.d.Down() || err != 0 || !sameMessages(got, was) || !sameState(is, before) {
		w.fail("P16.3: Handle(%+v) again = %+v, %d, was %+v; there is %+v, was %+v", m, got, err, was, is, before)
	}
}

// tick: false, if the power went off.
func (w *watched) tick() bool {
	w.t.Helper()
	before, now := w.kept(), w.p.Now()
	err := w.p.Tick()
	if err == errDown && w.d.Down() {
		w.went(before, now+1)
		return false
	}
	if err != 0 || w.p.Now() != now+1 {
		w.fail("Tick at %d = %d, now it is %d", now, err, w.p.Now())
	}
	w.went(before, now+1)
	kept := w.kept()
	for x := range before {
		_, is := kept[x]
		if _, due := w.gone[x]; is == due {
			w.fail("P16.5: at tick %d, old since %v: %v is there: %v", now+1, w.since, x, is)
		}
	}
	w.holds("P16.5")
	return true
}

// went takes down what must go by the tick that is now.
func (w *watched) went(before map[api.Want]api.Kept, now int64) {
	for x := range before {
		if since, old := w.since[x]; old && now-since >= w.c.Retain {
			w.gone[x] = 1
			delete(w.since, x)
		}
	}
}

// comesBack is the partition behind a crash, the power going off so many times in its Open too.
func (w *watched) comesBack(offs ...int) {
	w.t.Helper()
	for _, n := range offs {
		w.d.Up()
		w.d.Arm(n, n*9)
		Open(w.d, w.index, w.c)
		w.d.Crash(n)
	}
	w.d.Up()
	w.armed = false
	w.opens()
}

// arm lets the power go off in the midst of what comes, until comesBack.
func (w *watched) arm(n, keep int) {
	w.d.Arm(n, keep)
	w.armed = true
}

// ordinary is messages and ticks with old versions, late ones, and several compactions.
func (w *watched) ordinary() []step {
	var out []step
	for i, seq := range []int{2, 1, 4, 3, 6, 5} {
		id := api.ID(seq)<<16 + api.ID(i%2)
		out = append(out, handleSteps(w.write(id))...)
		if i%3 > 0 {
			out = append(out, handleSteps(commit(id))...)
		}
		out = append(out, step{kind: sTick})
		if i > 2 {
			out = append(out, handleSteps(commit(api.ID(2)<<16), w.write(one+1), latest("a"), byID(want("b", id)))...)
		}
	}
	return append(out, step{kind: sTick}, step{kind: sTick}, step{kind: sTick})
}

// does goes on from a place in a script; where the power goes off it tells the place, else the script's length.
func (w *watched) does(script []step, from int) int {
	w.t.Helper()
	for i := from; i < len(script); i++ {
		if on := script[i].kind == sTick && w.tick() || script[i].kind == sHandle && w.handle(script[i].m); !on {
			return i
		}
	}
	return len(script)
}

func TestWhatWasAnsweredIsThere(t *testing.T) {
	for _, compact := range []int{0, 1, 100, 250} {
		c := api.Config{Parts: 1, Retain: 2, Compact: compact}
		whole := watch(t, "whole", 0, c)
		script := whole.ordinary()
		whole.armed = true
		count := calls(whole.d, func() {
			if n := whole.does(script, 0); n != len(script) {
				whole.fail("it ended at %d", n)
			}
		})
		if compact > 0 && whole.p.Gen() < 2 || compact == 0 && whole.p.Gen() != 0 {
			t.Fatalf("the test's script ends in the generation %d", whole.p.Gen())
		}
		for n := range count + 1 {
			for _, keep := range []int{-1, 0, 3, 8, 9, 17, 25, 60, 90, 200, math.MaxInt} {
				what := fmt.Sprint("Compact ", compact, ", armed with ", n, ", ", keep)
				w := watch(t, what, 0, c)
				w.arm(n, keep)
				at := w.does(script, 0)
				if (at < len(script)) != (n < count) {
					w.fail("it ended at %d", at)
				}
				w.d.Crash(keep)
				w.comesBack([][]int{nil, {0}, {1}, {3, 1}, {2, 2, 2}}[(n+keep&15)%5]...)
				// The step in whose midst it was is asked again, as a client does; then all goes on.
				if at = w.does(script, at); at != len(script) {
					w.fail("it ended again at %d", at)
				}
				if !maps.Equal(w.lastOf(), whole.lastOf()) {
					w.fail("P16.4: the lasts are %v, want %v", w.lastOf(), whole.lastOf())
				}
			}
		}
	}
}

// Lives of chance: whatever comes in whatever order, over crashes at any call.
func TestLives(t *testing.T) {
	offs, nacks := 0, 0
	for seed := range 500 {
		c := newChance(70000 + seed)
		index, config := c.config()
		w := watch(t, fmt.Sprint("seed ", seed), index, config)
		own, _ := owned(universe(), index, config.Parts)
		for range 120 {
			on := true
			switch c.Intn(12) {
			case 0:
				w.d.Full(1)
				id := c.id()
				if m := w.write(id); len(m.Pairs) > 0 && w.p.store.Has(id) == 0 {
					handles(t, "P16.1", w.p, m, ack(kNack, m))
					nacks++
				}
				w.d.Full(0)
			case 1, 2, 3:
				on = w.tick()
			case 4, 5, 6:
				on = w.handle(commit(c.id()))
			case 7:
				on = w.handle(latest(c.keys(own)...))
			case 8:
				on = w.handle(byID(wantsOf(c.keys(own), c.id())...))
			case 9:
				// The power goes off in the midst of something.
				w.arm(c.Intn(7), c.Intn(150))
				steps := []step{{kind: sTick}}
				for range c.Intn(5) {
					if m := w.write(c.id()); len(m.Pairs) > 0 {
						steps = append(steps, handleSteps(m, commit(m.ID))...)
					}
				}
				on = w.does(steps, 0) == len(steps)
				w.d.Crash(c.Intn(40))
				w.comesBack(c.Intn(5), c.Intn(5))
				if !on {
					offs++
				}
				on = true
			default:
				if m := w.write(c.id()); len(m.Pairs) > 0 {
					on = w.handle(m)
				}
			}
			if !on {
				w.fail("the power went off by itself")
			}
		}
	}
	if offs < 500 || nacks < 500 {
		t.Errorf("in the test's lives the power went off %d times, %d nacks", offs, nacks)
	}
}

// P16.6.

func TestCompactionIsNotSeen(t *testing.T) {
	gens := int64(0)
	for seed := range 150 {
		c := newChance(90000 + seed)
		index, config := c.config()
		limits := []int{0, 1, 16, 17, 50, 100, 300, 1000, math.MaxInt, 1 + c.Intn(500)}
		var all []*Part
		for _, limit := range limits {
			config.Compact = limit
			all = append(all, opened(t, "P16.6", disk.New(), index, config))
		}
		for range 120 {
			m, tick := c.message(index, config.Parts), c.Intn(4) == 0
			var want []api.Message
			var bad api.Errno
			for i, p := range all {
				var got []api.Message
				var err api.Errno
				if tick {
					err = p.Tick()
				} else {
					got, err = p.Handle(m)
				}
				if i == 0 {
					want, bad = got, err
				}
				if err != bad || !sameMessages(got, want) {
					t.Fatalf("P16.6: seed %d, Compact %d: %s, %d, want %s, %d", seed, limits[i], short(got), err, short(want), bad)
				}
				if a, b := stateOf(p), stateOf(all[0]); a.now != b.now || !sameTold(a.told, b.told) {
					t.Fatalf("P16.6: seed %d, Compact %d: there is %s, want %s", seed, limits[i], short(a), short(b))
				}
			}
		}
		gens += all[1].Gen()
		if all[0].Gen() != 0 || all[8].Gen() != 0 {
			t.Fatalf("P16.1: with Compact 0 and a great one the generations are %d, %d", all[0].Gen(), all[8].Gen())
		}
	}
	if gens < 1000 {
		t.Errorf("the test's partitions have %d generations alone", gens)
	}
}

// Memory.

// roomy is a copy of a list with spare room behind it, in which something stands.
func roomy[T any](l []T, x T) []T {
	out := make([]T, 0, len(l)+3)
	out = append(append(out, l...), x, x, x)
	return out[:len(l)]
}

func roomyMessage(m api.Message) api.Message {
	m.Pairs, m.Keys, m.Wants = roomy(m.Pairs, pair("spare", "s")), roomy(m.Keys, "spare"), roomy(m.Wants, want("spare", lastID))
	return m
}

// whole is a message with its lists up to the ends of their room.
func whole(m api.Message) api.Message {
	m.Pairs, m.Keys, m.Wants = m.Pairs[:cap(m.Pairs)], m.Keys[:cap(m.Keys)], m.Wants[:cap(m.Wants)]
	return m
}

// spoil writes over all that a message has.
func spoil(m api.Message) {
	m = whole(m)
	for i := range m.Pairs {
		m.Pairs[i] = pair("spoilt", "spoilt")
	}
	for i := range m.Keys {
		m.Keys[i] = "spoilt"
	}
	for i := range m.Wants {
		m.Wants[i] = want("spoilt", 1)
	}
}

func TestHandedInIsNotChangedNorKept(t *testing.T) {
	for seed := range 300 {
		c := newChance(110000 + seed)
		index, config := c.config()
		p, twin := opened(t, "P16.7", disk.New(), index, config), opened(t, "P16.7", disk.New(), index, config)
		for range 40 {
			if c.Intn(5) == 0 {
				ticks(t, "P16.7", p, 1)
				ticks(t, "P16.7", twin, 1)
			}
			m := c.message(index, config.Parts)
			if c.Intn(5) == 0 {
				m = c.spoilt(m)
			}
			given := roomyMessage(m)
			was := copyOf(whole(given))
			got, err := p.Handle(given)
			if !sameMessage(whole(given), was) {
				t.Fatalf("P16.7: Handle changed %+v to %+v", was, whole(given))
			}
			spoil(given)
			want, bad := twin.Handle(copyOf(m))
			if err != bad || !sameMessages(got, want) || !sameState(stateOf(p), stateOf(twin)) {
				t.Fatalf("P16.7: what was handed in is kept: %s, %d, want %s, %d", short(got), err, short(want), bad)
			}
		}
	}
}

// scribble writes over all that is told, and into the room behind it.
func scribble(l []api.Message) {
	for i := range l {
		m := &l[i]
		m.Pairs = append(m.Pairs, pair("spoilt", ""))
		m.Keys = append(m.Keys, "spoilt")
		m.Wants = append(m.Wants, want("spoilt", 1))
		for j := range m.Versions {
			scribbleKeys(m.Versions[j].Keys)
			m.Versions[j] = version("spoilt", 1, "spoilt", "spoilt")
		}
		m.Versions = append(m.Versions, version("spoilt", 2, "spoilt"))
	}
}

func scribbleKeys(l []string) {
	l = l[:cap(l)]
	for i := range l {
		l[i] = "spoilt"
	}
}

func TestToldIsNewMemory(t *testing.T) {
	d := disk.New()
	p := opened(t, "P16.7", d, 0, ten)
	writes(t, "P16.7", p, prepare(one, list("a", "b", "c"), pair("a", "1"), pair("b", "2"), pair("c", "3")))
	writes(t, "P16.7", p, puts(two, "a", "4"))
	was := stateOf(p)
	asks := []api.Message{latest("a", "b", "c", "z"), byID(wantsOf(list("c", "b", "a", "z"), one)...), commit(one), puts(two, "a", "")}
	for _, m := range asks {
		want, _ := p.Handle(m)
		want = slices.Clone(want)
		for i := range want {
			want[i] = copyOf(want[i])
		}
		// One message of an answer at a time: the others stay.
		for i := range want {
			got, _ := p.Handle(m)
			scribble(got[i : i+1])
			for j := range got {
				if j != i && !sameMessage(got[j], want[j]) {
					t.Fatalf("P16.7: what was done to message %d of an answer changed number %d to %+v", i, j, got[j])
				}
			}
		}
		got, _ := p.Handle(m)
		_ = append(got, commit(one))
		scribble(got)
		handles(t, "P16.7", p, m, want...)
	}
	for range 2 {
		kept, lasts := p.Kept(), p.Lasts()
		for i := range kept {
			scribbleKeys(kept[i].Version.Keys)
			kept[i] = api.Kept{}
			if i+1 < len(kept) && kept[i+1].Version.Keys[0] == "spoilt" {
				t.Fatalf("P16.7: Kept shares lists")
			}
		}
		clear(lasts)
		_, _ = append(kept, api.Kept{}), append(lasts, api.Last{})
		if is := stateOf(p); !sameState(is, was) {
			t.Fatalf("P16.7: what was done to what was told is seen: %+v, was %+v", is, was)
		}
	}
}

// Partitions know nothing of one another.
func TestApart(t *testing.T) {
	a, b := opened(t, "P16.7", disk.New(), 0, ten), opened(t, "P16.7", disk.New(), 0, ten)
	writes(t, "P16.7", a, firstWrite())
	ticks(t, "P16.7", a, 3)
	if s := stateOf(b); !sameState(s, state{}) {
		t.Errorf("P16.7: another partition has %+v", s)
	}
}

func inUse() int64 {
	runtime.GC()
	runtime.GC()
	var m runtime.MemStats
	runtime.ReadMemStats(&m)
	return int64(m.HeapAlloc)
}

// A piece of a long text that is handed in doesn't keep all of it, neither in the partition nor in what it tells.
func TestNoLongTextIsKept(t *testing.T) {
	before := inUse()
	d := disk.New()
	p := opened(t, "P16.7", d, 0, ten)
	var told []api.Message
	for i := range 40 {
		long := strings.Repeat(fmt.Sprintf("%09d", i), 100000)
		key, value, other := long[:9], long[9:18], long[1:9]
		writes(t, "P16.7", p, puts(one+api.ID(i), key, value))
		for _, m := range []api.Message{latest(key, other), byID(want(key, one+api.ID(i)), want(other, one))} {
			got, err := p.Handle(m)
			if err != 0 || len(got) != 2 {
				t.Fatalf("P16.7: Handle = %d", err)
			}
			told = append(told, got...)
		}
	}
	if grown := inUse() - before; grown > 4<<20 {
		t.Errorf("P16.7: %d bytes are kept", grown)
	}
	runtime.KeepAlive(p)
	runtime.KeepAlive(told)
}

// A great partition, in the time that there is.
func TestGreat(t *testing.T) {
	d := disk.New()
	c := api.Config{Parts: 1, Retain: 3, Compact: 100000}
	p := opened(t, "P16.1", d, 0, c)
	for i := range 20000 {
		m := prepare(one+api.ID(i), list(fmt.Sprint(i%5000), "x"), pair(fmt.Sprint(i%5000), "1"), pair("x", "2"))
		writes(t, "P16.1", p, m)
		if i%1000 == 999 {
			ticks(t, "P16.1", p, 1)
		}
	}
	if p.Gen() < 10 || len(p.Lasts()) != 5001 {
		t.Errorf("P16.1: there is the generation %d, %d lasts", p.Gen(), len(p.Lasts()))
	}
	ticks(t, "P16.5", p, 4)
	if n := len(p.Kept()); n != 5001 {
		t.Errorf("P16.5: %d versions", n)
	}
	// What was collected since the last compaction may be there again: old, in the log.
	q := again(t, "P16.2", d, 0, c)
	fresh := slices.DeleteFunc(q.Kept(), func(k api.Kept) bool { return k.Stamp != -1 })
	if !sameTold(told{fresh, q.Lasts()}, told{p.Kept(), p.Lasts()}) || q.Gen() != p.Gen() || q.Log() != p.Log() {
		t.Errorf("P16.2: behind a crash there are %d versions, %d lasts", len(q.Kept()), len(q.Lasts()))
	}
}
