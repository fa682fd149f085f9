package boot

import (
	"bytes"
	"encoding/binary"
	"fmt"
	"hash/crc32"
	"maps"
	"math"
	"math/rand"
	"runtime"
	"slices"
	"strings"
	"testing"

	"rampart/api"
	"rampart/disk"
	"rampart/record"
	"rampart/snap"
	"rampart/store"
	"rampart/wal"
)

// The chapter's numbers, not api's.
const (
	kPrepare = 1
	kCommit  = 2

	one      = api.ID(65536)  // client 0's first write
	two      = api.ID(131072) // its second
	three    = api.ID(196608) // and its third
	lastID   = api.ID(1<<64 - 1)
	lastGen  = int64(math.MaxInt64)
	maxTick  = int64(1) << 40
	maxFiles = 16
	longest  = 1048576 // bytes of a payload

	errArg     = api.Errno(1)
	errNoSpace = api.Errno(60)
	errFile    = api.Errno(61)
	errDown    = api.Errno(62)
	errCorrupt = api.Errno(140)
)

// Records and snapshots as bytes, laid apart from the layers below.

func be32(b []byte, n int) []byte { return binary.BigEndian.AppendUint32(b, uint32(n)) }

func be64(b []byte, n uint64) []byte { return binary.BigEndian.AppendUint64(b, n) }

func text(b []byte, s string) []byte { return append(be32(b, len(s)), s...) }

func texts(b []byte, l []string) []byte {
	b = be32(b, len(l))
	for _, s := range l {
		b = text(b, s)
	}
	return b
}

func crc(b []byte) int { return int(crc32.ChecksumIEEE(b)) }

// payload is a record's, lawful or not.
func payload(r api.Record) []byte {
	b := be64([]byte{byte(r.Kind)}, uint64(r.ID))
	if r.Kind == kCommit && len(r.Pairs)+len(r.Keys) == 0 {
		return b
	}
	b = be32(b, len(r.Pairs))
	for _, p := range r.Pairs {
		b = text(text(b, p.Key), p.Value)
	}
	return texts(b, r.Keys)
}

// logged is a payload, whatever it is, with its length and its checksum ahead.
func logged(payload []byte) []byte {
	return append(be32(be32(nil, len(payload)), crc(payload)), payload...)
}

// row is the bytes of records, one behind the other.
func row(l ...api.Record) []byte {
	var b []byte
	for _, r := range l {
		b = append(b, logged(payload(r))...)
	}
	return b
}

// sealed is bytes, whatever they are, with their checksum behind.
func sealed(body []byte) []byte { return be32(slices.Clone(body), crc(body)) }

// snapBody is all of a snapshot ahead of its checksum.
func snapBody(gen int64, s told) []byte {
	b := be64([]byte("ramp\x01"), uint64(gen))
	b = be32(b, len(s.lasts))
	for _, l := range s.lasts {
		b = be64(text(b, l.Key), uint64(l.ID))
	}
	b = be32(b, len(s.kept))
	for _, k := range s.kept {
		v := k.Version
		b = texts(text(be64(text(b, v.Key), uint64(v.ID)), v.Value), v.Keys)
	}
	return b
}

// Records to begin with.

func commit(id api.ID) api.Record { return api.Record{Kind: kCommit, ID: id} }

func pair(key, value string) api.Pair { return api.Pair{Key: key, Value: value} }

func list(keys ...string) []string { return keys }

func prepare(id api.ID, keys []string, pairs ...api.Pair) api.Record {
	return api.Record{Kind: kPrepare, ID: id, Pairs: pairs, Keys: keys}
}

// puts is a prepare of one key with one value.
func puts(id api.ID, key, value string) api.Record { return prepare(id, list(key), pair(key, value)) }

// ordinary is records of both kinds: committed writes, prepared ones, late ones, one again with another value.
func ordinary() []api.Record {
	return []api.Record{
		prepare(one, list("a", "b", "far"), pair("a", "1"), pair("b", "2")), commit(one),
		prepare(two+1, list("", "a"), pair("", ""), pair("a", "x\x00y")),
		prepare(three, list("a", "c"), pair("a", strings.Repeat("v", 300)), pair("c", "\xff")), commit(three), commit(two + 1),
		puts(two, "a", "late"), commit(two), puts(two, "a", "again, and another"), puts(lastID, "b", "prepared alone"), commit(two + 7),
	}
}

// The model: what a store has behind records, in plain maps.

type told struct {
	kept  []api.Kept
	lasts []api.Last
}

type book struct {
	versions map[api.Want]api.Version
	lasts    map[string]api.ID
}

func newBook() book { return book{map[api.Want]api.Version{}, map[string]api.ID{}} }

func (b book) do(l ...api.Record) book {
	for _, r := range l {
		if r.Kind == kCommit {
			b.commit(r.ID)
			continue
		}
		for _, p := range r.Pairs {
			w := api.Want{Key: p.Key, ID: r.ID}
			if _, has := b.versions[w]; !has {
				b.versions[w] = api.Version{Key: p.Key, ID: r.ID, Value: p.Value, Keys: slices.Clone(r.Keys)}
			}
		}
	}
	return b
}

func (b book) commit(id api.ID) {
	for w := range b.versions {
		if w.ID == id {
			b.lasts[w.Key] = max(b.lasts[w.Key], id)
		}
	}
}

func (b book) copy() book { return book{maps.Clone(b.versions), maps.Clone(b.lasts)} }

// told is what a store with all that tells, if each old version came to be old at now.
func (b book) told(now int64) told {
	var out told
	for w, v := range b.versions {
		k := api.Kept{Version: v, Stamp: -1}
		if w.ID < b.lasts[w.Key] {
			k.Stamp = now
		}
		out.kept = append(out.kept, k)
	}
	slices.SortFunc(out.kept, func(x, y api.Kept) int {
		if c := strings.Compare(x.Version.Key, y.Version.Key); c != 0 {
			return c
		}
		if x.Version.ID < y.Version.ID {
			return -1
		}
		return 1
	})
	for _, key := range slices.Sorted(maps.Keys(b.lasts)) {
		out.lasts = append(out.lasts, api.Last{Key: key, ID: b.lasts[key]})
	}
	return out
}

func bookOf(s *store.Store) book {
	b := newBook()
	for _, k := range s.Kept() {
		b.versions[api.Want{Key: k.Version.Key, ID: k.Version.ID}] = k.Version
	}
	for _, l := range s.Lasts() {
		b.lasts[l.Key] = l.ID
	}
	return b
}

func toldBy(s *store.Store) told { return told{s.Kept(), s.Lasts()} }

func sameKept(a, b api.Kept) bool {
	v, w := a.Version, b.Version
	return a.Stamp == b.Stamp && v.Key == w.Key && v.ID == w.ID && v.Value == w.Value && slices.Equal(v.Keys, w.Keys)
}

func same(a, b told) bool {
	return slices.Equal(a.lasts, b.lasts) && slices.EqualFunc(a.kept, b.kept, sameKept)
}

// short tells a thing, but not all of a long one.
func short(x any) string {
	s := fmt.Sprintf("%#v", x)
	switch x := x.(type) {
	case string:
		s = x
	case []byte:
		s = fmt.Sprintf("%q", x)
	}
	if len(s) > 900 {
		return s[:800] + " and on, " + fmt.Sprint(len(s)) + " signs in all"
	}
	return s
}

// Disks.

type file struct {
	name   string
	synced []byte
	tail   []byte // what stands behind it, not synced
}

func lay(t *testing.T, files ...file) *disk.Disk {
	t.Helper()
	d := disk.New()
	for _, f := range files {
		if d.Append(f.name, f.synced) != 0 || d.Sync(f.name) != 0 || d.Append(f.name, f.tail) != 0 {
			t.Fatalf("the test's file %q isn't laid", f.name)
		}
	}
	return d
}

// state is what the chapter speaks of: a snapshot's generation (0: there is none) and what it holds, and the log behind it.
type state struct {
	gen     int64
	base    book
	records []api.Record
	torn    []byte // behind the records, synced
	tail    []byte // behind that, not synced
	others  []file
}

func (p state) files() []file {
	out := slices.Clone(p.others)
	if p.gen > 0 {
		out = append(out, file{name: "snap", synced: sealed(snapBody(p.gen, p.base.told(0)))})
	}
	if len(p.records)+len(p.torn)+len(p.tail) > 0 {
		out = append(out, file{p.log(), append(row(p.records...), p.torn...), p.tail})
	}
	return out
}

func (p state) log() string { return fmt.Sprintf("log.%d", p.gen) }

// answer is what Open of it must tell.
func (p state) answer(now int64) answer {
	base := newBook()
	if p.gen > 0 {
		base = p.base.copy()
	}
	return answer{base.do(p.records...).told(now), p.gen, p.log(), len(row(p.records...)), 0}
}

// kept is what it must have then, by name.
func (p state) kept() []string {
	var out []string
	for _, f := range p.files() {
		if f.name == "snap" || f.name == p.log() {
			out = append(out, f.name)
		}
	}
	slices.Sort(out)
	return out
}

// mixed is a state with something of everything: seven calls of the disk are made of it.
func mixed() state {
	return state{
		gen:     2,
		base:    newBook().do(ordinary()...),
		records: []api.Record{puts(1<<40, "a", "new"), commit(1 << 40), prepare(three+1, list("b", "d"), pair("b", "p"), pair("d", "q"))},
		tail:    row(puts(1<<41, "c", "torn"))[:30],
		others:  []file{{"log.1", row(ordinary()...), nil}, {"snap.tmp", []byte("half"), []byte("of one")}, {"else", nil, []byte("x")}},
	}
}

// states is states of all kinds.
func states() []state {
	base := newBook().do(ordinary()...)
	junk := []file{{"log.1", row(puts(two, "a", "of another")), nil}, {"snap.tmp", sealed(snapBody(8, base.told(0))), nil}, {"z", nil, nil}}
	return []state{
		{}, {records: ordinary()}, {others: junk}, {records: ordinary(), torn: []byte{0}, others: junk},
		{gen: 5, base: newBook()}, {gen: 5, base: base}, {gen: 5, base: base, records: ordinary(), others: junk},
		{gen: lastGen, base: base, records: ordinary(), tail: row(commit(two))[:16]}, {gen: 7, base: base, torn: []byte("no record at all")}, mixed(),
	}
}

// The calls.

// answer is what is told of an Open: of an error nothing else.
type answer struct {
	told told
	gen  int64
	name string
	size int
	err  api.Errno
}

func sameAnswer(a, b answer) bool {
	return a.gen == b.gen && a.name == b.name && a.size == b.size && a.err == b.err && same(a.told, b.told)
}

// open is Open, with a look that there is all of an answer or nothing but the error.
func open(t *testing.T, d *disk.Disk, now int64) (answer, *store.Store, *wal.Log) {
	t.Helper()
	s, l, gen, err := Open(d, now)
	if err != 0 {
		if s != nil || l != nil || gen != 0 {
			t.Fatalf("P14.1: Open at %d: %v, %v, %d beside %d", now, s, l, gen, err)
		}
		return answer{err: err}, nil, nil
	}
	if s == nil || l == nil {
		t.Fatalf("P14.1: Open at %d: OK, and %v, %v", now, s, l)
	}
	return answer{toldBy(s), gen, l.Name(), l.Size(), 0}, s, l
}

// opened is Open that must tell just this.
func opened(t *testing.T, what string, d *disk.Disk, now int64, want answer) (*store.Store, *wal.Log) {
	t.Helper()
	got, s, l := open(t, d, now)
	if !sameAnswer(got, want) {
		t.Fatalf("%s: Open at %d = %s, want %s", what, now, short(got), short(want))
	}
	return s, l
}

// modelOpen does the chapter's words to a disk of its own, call by call.
func modelOpen(d *disk.Disk, now int64) answer {
	if d == nil || now < 0 || now > maxTick {
		return answer{err: errArg}
	}
	names, err := d.List()
	if err != 0 {
		return answer{err: err}
	}
	gen, b := int64(0), newBook()
	if slices.Contains(names, "snap") {
		in, err := d.Read("snap")
		if err != 0 {
			return answer{err: err}
		}
		g, s, bad := snap.Read(in, now)
		if bad != 0 {
			return answer{err: errCorrupt}
		}
		gen, b = g, bookOf(s)
	}
	log := fmt.Sprintf("log.%d", gen)
	for _, name := range names {
		if name == "snap" || name == log {
			continue
		}
		if err := d.Delete(name); err != 0 {
			return answer{err: err}
		}
	}
	return modelLog(d, gen, log, b, now)
}

func modelLog(d *disk.Disk, gen int64, log string, b book, now int64) answer {
	in, err := d.Read(log)
	if err != 0 && err != errFile {
		return answer{err: err}
	}
	records, n := record.Scan(in)
	if n != len(in) {
		if err := d.Cut(log, n); err != 0 {
			return answer{err: err}
		}
	}
	return answer{b.do(records...).told(now), gen, log, n, 0}
}

// check holds Open of these files, with something done to the disk ahead, against the model, and the disks too.
func check(t *testing.T, what string, files []file, now int64, ahead func(d *disk.Disk)) answer {
	t.Helper()
	d, twin := lay(t, files...), lay(t, files...)
	if ahead != nil {
		ahead(d)
		ahead(twin)
	}
	got, _, _ := open(t, d, now)
	if want := modelOpen(twin, now); !sameAnswer(got, want) {
		t.Fatalf("P14.1: %s: Open at %d = %s, want %s", what, now, short(got), short(want))
	}
	if a, b := dissect(d), dissect(twin); a != b {
		t.Fatalf("P14.1: %s: behind Open at %d the disk is\n%s\nwant\n%s", what, now, short(a), short(b))
	}
	return got
}

func lookAt(d *disk.Disk) string {
	var s strings.Builder
	names, err := d.List()
	fmt.Fprintln(&s, len(names), err)
	for _, name := range names {
		b, err := d.Read(name)
		fmt.Fprintf(&s, "%q %q %d\n", name, b, err)
	}
	return s.String()
}

// dissect tells all of a disk: whether it is down, what it is armed with, its refusals, and which bytes are synced. It is of no use then.
func dissect(d *disk.Disk) string {
	var s strings.Builder
	fmt.Fprint(&s, d.Down(), " ")
	for range maxFiles + 10 {
		_, err := d.List()
		fmt.Fprint(&s, int(err), " ")
	}
	d.Up()
	s.WriteString(lookAt(d))
	for range 4 {
		fmt.Fprint(&s, int(d.Append("probe", []byte("p"))), " ")
	}
	crashed(d, 0)
	s.WriteString(lookAt(d))
	return s.String()
}

func crashed(d *disk.Disk, keep int) {
	d.Crash(keep)
	d.Up()
}

func listIs(t *testing.T, what string, d *disk.Disk, want ...string) {
	t.Helper()
	if l, err := d.List(); err != 0 || !slices.Equal(l, want) {
		t.Fatalf("%s: the disk has %q, %d, want %q", what, l, err, want)
	}
}

func fileIs(t *testing.T, what string, d *disk.Disk, name string, want []byte) {
	t.Helper()
	if b, err := d.Read(name); err != 0 || !bytes.Equal(b, want) {
		t.Fatalf("%s: the file %q is %s, %d, want %s", what, name, short(b), err, short(want))
	}
}

// calls is how many counted calls of a disk f makes; the power is on again then, and nothing was lost.
func calls(d *disk.Disk, f func()) int {
	const most = 1000
	d.Arm(most, math.MaxInt)
	f()
	left := 0
	for !d.Down() {
		d.List()
		left++
	}
	d.Up()
	return most - (left - 1)
}

// Examples.

func TestExampleOne(t *testing.T) {
	d := disk.New()
	s, l, gen, err := Open(d, 0)
	if err != 0 || gen != 0 || len(s.Kept())+len(s.Lasts()) != 0 || l.Name() != "log.0" || l.Size() != 0 {
		t.Fatalf("P14.1: Open = %v, %v, %d, %d", s, l, gen, err)
	}
	listIs(t, "P14.1", d)
}

// exampleDisk is the second example's, its bytes written out.
func exampleDisk(t *testing.T) *disk.Disk {
	t.Helper()
	image := []byte("ramp\x01" + "\x00\x00\x00\x00\x00\x00\x00\x02" +
		"\x00\x00\x00\x01" + "\x00\x00\x00\x01a" + "\x00\x00\x00\x00\x00\x01\x00\x00" +
		"\x00\x00\x00\x01" + "\x00\x00\x00\x01a" + "\x00\x00\x00\x00\x00\x01\x00\x00" + "\x00\x00\x00\x01x" + "\x00\x00\x00\x01\x00\x00\x00\x01a")
	put := []byte("\x01\x00\x00\x00\x00\x00\x02\x00\x00" + "\x00\x00\x00\x01" + "\x00\x00\x00\x01a" + "\x00\x00\x00\x01y" + "\x00\x00\x00\x01\x00\x00\x00\x01a")
	commit := []byte("\x02\x00\x00\x00\x00\x00\x02\x00\x00")
	log := slices.Concat(logged(put), logged(commit), []byte("\x00\x00\x00\x09\x01"))
	return lay(t, file{"snap", sealed(image), nil}, file{"log.2", log, nil}, file{"log.1", []byte("1"), nil}, file{"snap.tmp", []byte("tmp"), nil})
}

func TestExampleTwo(t *testing.T) {
	d := exampleDisk(t)
	s, l, gen, err := Open(d, 7)
	if err != 0 || gen != 2 || l.Name() != "log.2" || l.Size() != 40+17 {
		t.Fatalf("P14.1: Open = %v, %d, %d", l, gen, err)
	}
	want := told{
		[]api.Kept{
			{Version: api.Version{Key: "a", ID: 65536, Value: "x", Keys: list("a")}, Stamp: 7},
			{Version: api.Version{Key: "a", ID: 131072, Value: "y", Keys: list("a")}, Stamp: -1},
		},
		[]api.Last{{Key: "a", ID: 131072}},
	}
	if got := toldBy(s); !same(got, want) {
		t.Errorf("P14.2: Open tells %s, want %s", short(got), short(want))
	}
	listIs(t, "P14.1", d, "log.2", "snap")
	if n, err := d.Size("log.2"); n != 40+17 || err != 0 {
		t.Errorf("P14.1: the log's file has %d bytes, %d", n, err)
	}
}

func TestExampleThree(t *testing.T) {
	d := exampleDisk(t)
	d.Arm(0, 0)
	if got, _, _ := open(t, d, 7); got.err != 62 || !d.Down() {
		t.Errorf("P14.1: armed: %d", got.err)
	}
	d.Up()
	want := answer{bookOf(mustOpen(t, exampleDisk(t), 7)).told(7), 2, "log.2", 57, 0}
	opened(t, "P14.1: behind Up", d, 7, want)
	if got, _, _ := open(t, lay(t, file{"snap", []byte("x"), nil}), 0); got.err != 140 {
		t.Errorf("P14.1: \"snap\" = x: %d", got.err)
	}
	if got, _, _ := open(t, nil, 0); got.err != 1 {
		t.Errorf("P14.1: no disk: %d", got.err)
	}
	if got, _, _ := open(t, d, -1); got.err != 1 {
		t.Errorf("P14.1: at -1: %d", got.err)
	}
}

func mustOpen(t *testing.T, d *disk.Disk, now int64) *store.Store {
	t.Helper()
	got, s, _ := open(t, d, now)
	if got.err != 0 {
		t.Fatalf("P14.1: Open at %d: %d", now, got.err)
	}
	return s
}

// Arguments.

func TestLog(t *testing.T) {
	for gen, want := range map[int64]string{
		0: "log.0", 1: "log.1", 9: "log.9", 10: "log.10", 12: "log.12", 99: "log.99", 1000000: "log.1000000", 1 << 40: "log.1099511627776",
		math.MaxInt64 - 1: "log.9223372036854775806", math.MaxInt64: "log.9223372036854775807",
		-1: "log.-1", -3: "log.-3", -10: "log.-10", -(1 << 40): "log.-1099511627776", math.MinInt64 + 1: "log.-9223372036854775807", math.MinInt64: "log.-9223372036854775808",
	} {
		if got := Log(gen); got != want {
			t.Errorf("P14.1: Log(%d) = %q, want %q", gen, got, want)
		}
	}
	c := rand.New(rand.NewSource(1))
	for range 5000 {
		gen := int64(c.Uint64()) >> c.Intn(64)
		if got, want := Log(gen), fmt.Sprint("log.", gen); got != want {
			t.Fatalf("P14.1: Log(%d) = %q", gen, got)
		}
	}
}

func noTicks() []int64 {
	return []int64{-1, -2, -maxTick, math.MinInt64, maxTick + 1, maxTick + 2, 1 << 41, math.MaxInt64}
}

// A wrong argument comes ahead of all that the disk would say, and it makes no call of it.
func TestArguments(t *testing.T) {
	for _, now := range append(noTicks(), 0, 7, maxTick) {
		if got, _, _ := open(t, nil, now); got.err != errArg {
			t.Errorf("P14.1: no disk, at %d: %d", now, got.err)
		}
	}
	spoilt := []file{{"snap", []byte("x"), nil}, {"else", nil, nil}}
	for _, now := range noTicks() {
		for _, files := range [][]file{nil, mixed().files(), spoilt} {
			for what, ahead := range map[string]func(d *disk.Disk){
				"as it is": nil,
				"armed":    func(d *disk.Disk) { d.Arm(0, 3) },
				"down":     func(d *disk.Disk) { d.Crash(1) },
				"full":     func(d *disk.Disk) { d.Full(2) },
			} {
				if got := check(t, what, files, now, ahead); got.err != errArg {
					t.Errorf("P14.1: %s, at %d: %d", what, now, got.err)
				}
			}
		}
	}
}

func TestTicks(t *testing.T) {
	for _, now := range []int64{0, 1, 7, 1 << 31, 1 << 32, maxTick - 1, maxTick} {
		for i, p := range states() {
			check(t, fmt.Sprint("state ", i), p.files(), now, nil)
			opened(t, fmt.Sprint("P14.1: state ", i), lay(t, p.files()...), now, p.answer(now))
		}
	}
}

// All old versions have the stamp of the Open that told them: those of the snapshot and those of the log, late ones too.
func TestStamps(t *testing.T) {
	d := lay(t, state{
		gen:     1,
		base:    newBook().do(puts(one, "a", "1"), puts(two, "a", "2"), commit(two), puts(one, "b", "1"), commit(one)),
		records: []api.Record{puts(two, "b", "2"), commit(two), puts(one+1, "a", "late"), puts(three, "a", "prepared"), puts(three, "c", "c"), puts(two+1, "c", "c")},
	}.files()...)
	for _, now := range []int64{5, 9, 0, maxTick} {
		stamps := map[string]int64{}
		for _, k := range mustOpen(t, d, now).Kept() {
			stamps[fmt.Sprint(k.Version.Key, uint64(k.Version.ID))] = k.Stamp
		}
		want := map[string]int64{"a65536": now, "a65537": now, "a131072": -1, "a196608": -1, "b65536": now, "b131072": -1, "c131073": -1, "c196608": -1}
		if !maps.Equal(stamps, want) {
			t.Errorf("P14.1: at %d: %v, want %v", now, stamps, want)
		}
	}
}

func TestDown(t *testing.T) {
	for i, p := range states() {
		got := check(t, fmt.Sprint("state ", i, " down"), p.files(), 3, func(d *disk.Disk) { d.Crash(2) })
		if got.err != errDown {
			t.Errorf("P14.1: with the power off: %d", got.err)
		}
	}
	spoilt := []file{{"snap", []byte("x"), nil}}
	if got := check(t, "spoilt and down", spoilt, 3, func(d *disk.Disk) { d.Crash(2) }); got.err != errDown {
		t.Errorf("P14.1: spoilt, with the power off: %d", got.err)
	}
}

// Which files count.

func TestWithoutSnap(t *testing.T) {
	log := row(ordinary()...)
	for _, c := range []struct {
		what  string
		files []file
		log   []api.Record
		want  []string
	}{
		{"nothing", nil, nil, nil},
		{"log.0", []file{{"log.0", log, nil}}, ordinary(), list("log.0")},
		{"an empty log.0", []file{{"log.0", nil, nil}}, nil, list("log.0")},
		{"log.3", []file{{"log.3", log, nil}}, nil, nil},
		{"log.0 and log.3", []file{{"log.0", row(commit(one)), nil}, {"log.3", log, nil}}, these(commit(one)), list("log.0")},
		{"log.0 and snap.tmp", []file{{"log.0", log, nil}, {"snap.tmp", sealed(snapBody(1, told{})), nil}}, ordinary(), list("log.0")},
		{"snap.tmp and log.1", []file{{"log.1", log, nil}, {"snap.tmp", sealed(snapBody(1, told{})), nil}}, nil, nil},
		{"others", []file{{"a", log, nil}, {"\x00", nil, []byte("x")}, {strings.Repeat("z", 32), log, nil}}, nil, nil},
	} {
		for _, now := range []int64{0, 11} {
			check(t, c.what, c.files, now, nil)
			d := lay(t, c.files...)
			opened(t, "P14.1: "+c.what, d, now, state{records: c.log}.answer(now))
			listIs(t, "P14.3: "+c.what, d, c.want...)
		}
	}
}

func these(l ...api.Record) []api.Record { return l }

// Names that are nearly those of the files that count.
func TestNamesLikeOurs(t *testing.T) {
	names := list("log.7", "snap", "log.07", "log.007", "log.+7", "log.-7", "log.7 ", " log.7", "log.7\x00", "log.70", "log.77", "log.6", "log.8", "log.0", "log.00",
		"log.-0", "log.", "log", "log7", "Log.7", "LOG.7", "log_7", "log.7.tmp", "log.0x7", "7", ".7", "l", "snap ", " snap", "Snap", "SNAP", "sna", "snap\x00",
		"snap.7", "snap.tmp", "snap.", "snap2", "s", "\xff", "\x00", " ", ".", "..", "/snap", "log.9223372036854775807", "log.18446744073709551623", strings.Repeat("x", 32))
	p := state{gen: 7, base: newBook().do(ordinary()...), records: []api.Record{puts(1<<40, "a", "z"), commit(1 << 40)}}
	for _, name := range names[2:] {
		p.others = []file{{name, row(puts(lastID, "a", "strange"), commit(lastID)), nil}}
		check(t, name, p.files(), 3, nil)
		d := lay(t, p.files()...)
		opened(t, "P14.1: beside "+name, d, 3, p.answer(3))
		listIs(t, "P14.3: beside "+name, d, "log.7", "snap")
		// Without a snapshot the same names, and log.7 itself, are others too, but for log.0.
		bare := state{others: p.others}
		if name == "log.0" {
			bare = state{records: []api.Record{puts(lastID, "a", "strange"), commit(lastID)}}
		}
		check(t, name, bare.files(), 3, nil)
		d = lay(t, bare.files()...)
		opened(t, "P14.1: alone: "+name, d, 3, bare.answer(3))
		listIs(t, "P14.3: alone: "+name, d, bare.kept()...)
	}
}

// A disk with as many files as it may have; of a full one, room is made for the log.
func TestAllFiles(t *testing.T) {
	for _, p := range []state{{}, {records: ordinary()}, {gen: 3, base: newBook()}, {gen: 3, base: newBook(), records: ordinary()}} {
		for i := 0; len(p.files()) < maxFiles; i++ {
			p.others = append(p.others, file{fmt.Sprintf("log.%d", 100*i+50), []byte{byte(i)}, []byte{1}})
		}
		check(t, "all files", p.files(), 1, nil)
		d := lay(t, p.files()...)
		_, l := opened(t, "P14.1: all files", d, 1, p.answer(1))
		listIs(t, "P14.3: all files", d, p.kept()...)
		if err := l.Append(commit(one)); err != 0 {
			t.Errorf("P14.4: Append behind Open: %d", err)
		}
	}
}

func TestGenerations(t *testing.T) {
	base := newBook().do(ordinary()...)
	for _, gen := range []int64{1, 2, 3, 9, 10, 99, 100, 1 << 31, 1 << 32, maxTick - 1, maxTick, maxTick + 1, 1 << 53, lastGen - 1, lastGen} {
		p := state{gen: gen, base: base}
		for i, other := range []int64{gen - 1, gen + 1, -gen, 0, gen / 10, gen ^ 1<<20} {
			name := fmt.Sprintf("log.%d", other)
			if other != gen && !slices.ContainsFunc(p.others, func(f file) bool { return f.name == name }) {
				p.others = append(p.others, file{name, row(puts(lastID, fmt.Sprint(i), "strange"), commit(lastID)), nil})
			}
		}
		for _, records := range [][]api.Record{nil, {puts(1<<40, "a", "new"), commit(1 << 40)}} {
			p.records = records
			check(t, fmt.Sprint(gen), p.files(), 8, nil)
			d := lay(t, p.files()...)
			_, l := opened(t, fmt.Sprint("P14.1: generation ", gen), d, 8, p.answer(8))
			listIs(t, fmt.Sprint("P14.3: generation ", gen), d, p.kept()...)
			if err := l.Append(commit(two)); err != 0 {
				t.Errorf("P14.4: Append to %q: %d", l.Name(), err)
			}
		}
	}
}

// Open makes no file, with or without a snapshot, and appends to none.
func TestMakesNoFile(t *testing.T) {
	for i, p := range states() {
		ahead := lay(t, p.files()...)
		was, _ := ahead.List()
		opened(t, "P14.1", ahead, 2, p.answer(2))
		now, _ := ahead.List()
		for _, name := range now {
			if !slices.Contains(was, name) {
				t.Errorf("P14.1: state %d: Open made %q", i, name)
			}
		}
		if !slices.Equal(now, p.kept()) {
			t.Errorf("P14.3: state %d: there are %q, want %q", i, now, p.kept())
		}
	}
}

// Spoilt snapshots.

// corrupt looks that a snapshot is refused, and that all else lies there as it did, whatever logs and others there are.
func corrupt(t *testing.T, what string, image []byte) {
	t.Helper()
	for _, beside := range [][]file{
		nil,
		{{"log.0", row(ordinary()...), []byte("torn")}, {"log.2", row(ordinary()...), nil}, {"log.-1", nil, nil}, {"snap.tmp", nil, []byte("y")}, {"else", nil, nil}},
	} {
		for cut := range 2 {
			// Synced to the half or wholly: that is not looked at.
			n := len(image) >> cut
			files := append(slices.Clone(beside), file{"snap", image[:n], image[n:]})
			d, twin := lay(t, files...), lay(t, files...)
			if got, _, _ := open(t, d, 7); got.err != errCorrupt {
				t.Fatalf("P14.1: %s: Open: %d", what, got.err)
			}
			if a, b := dissect(d), dissect(twin); a != b {
				t.Fatalf("P14.1: %s: behind ErrCorrupt the disk is\n%s\nwant\n%s", what, short(a), short(b))
			}
			check(t, what, files, 7, func(d *disk.Disk) { d.Arm(9, 1) })
		}
	}
}

func TestCorrupt(t *testing.T) {
	base := newBook().do(ordinary()...).told(0)
	body := snapBody(2, base)
	whole := sealed(body)
	corrupt(t, "empty", nil)
	corrupt(t, "a byte", []byte("x"))
	corrupt(t, "noughts", make([]byte, 4))
	corrupt(t, "the checksum of nothing", sealed(nil))
	corrupt(t, "a log", row(ordinary()...))
	corrupt(t, "twice", append(slices.Clone(whole), whole...))
	corrupt(t, "a byte more", append(slices.Clone(whole), 0))
	corrupt(t, "a byte more, summed", sealed(append(slices.Clone(body), 0)))
	corrupt(t, "a byte less, summed", sealed(body[:len(body)-1]))
	corrupt(t, "generation 0", sealed(snapBody(0, base)))
	corrupt(t, "generation -1", sealed(snapBody(-1, base)))
	corrupt(t, "generation 1<<63", sealed(snapBody(math.MinInt64, base)))
	corrupt(t, "another form", sealed(append([]byte("ramp\x02"), body[5:]...)))
	corrupt(t, "another mark", sealed(append([]byte("rump\x01"), body[5:]...)))
	swapped := told{slices.Clone(base.kept), slices.Clone(base.lasts)}
	slices.Reverse(swapped.lasts)
	corrupt(t, "lasts out of order", sealed(snapBody(2, swapped)))
	corrupt(t, "versions out of order", sealed(snapBody(2, told{append(slices.Clone(base.kept), base.kept[0]), base.lasts})))
	corrupt(t, "a last without a version", sealed(snapBody(2, told{nil, base.lasts})))
	small := sealed(snapBody(3, newBook().do(puts(one, "a", "1"), commit(one)).told(0)))
	for n := range small {
		corrupt(t, fmt.Sprint("cut off behind ", n), small[:n])
		for bit := range 8 {
			b := slices.Clone(small)
			b[n] ^= 1 << bit
			corrupt(t, fmt.Sprint("bit ", bit, " of byte ", n), b)
		}
	}
	for n := range whole {
		corrupt(t, fmt.Sprint("cut off behind ", n), whole[:n])
	}
}

// It is found by the first two calls: no more are made of a spoilt one.
func TestCorruptCalls(t *testing.T) {
	files := []file{{"snap", []byte("x"), nil}, {"a", nil, nil}, {"log.0", row(commit(one))[:5], nil}}
	if n := calls(lay(t, files...), func() { open(t, lay(t, files...), 1) }); n != 0 {
		t.Fatalf("the test counts %d calls of another disk", n)
	}
	d := lay(t, files...)
	if n := calls(d, func() { open(t, d, 1) }); n != 2 {
		t.Errorf("P14.1: %d calls, want 2", n)
	}
	for n, want := range []api.Errno{errDown, errDown, errCorrupt, errCorrupt} {
		d := lay(t, files...)
		d.Arm(n, 0)
		if got, _, _ := open(t, d, 1); got.err != want || d.Down() != (want == errDown) {
			t.Errorf("P14.1: armed with %d: %d, want %d", n, got.err, want)
		}
		d.Up()
		listIs(t, "P14.1", d, "a", "log.0", "snap")
	}
}

// Calls of the disk.

func TestCalls(t *testing.T) {
	log := row(ordinary()...)
	base := sealed(snapBody(2, told{}))
	for _, c := range []struct {
		what  string
		files []file
		want  int
	}{
		{"a new disk: List, Read", nil, 2},
		{"a log: List, Read", []file{{"log.0", log, nil}}, 2},
		{"a torn log: List, Read, Cut", []file{{"log.0", log, []byte{0}}}, 3},
		{"a snapshot: List, Read, Read", []file{{"snap", base, nil}}, 3},
		{"both: List, Read, Read", []file{{"snap", base, nil}, {"log.2", log, nil}}, 3},
		{"both, torn: List, Read, Read, Cut", []file{{"snap", base, nil}, {"log.2", log, []byte{0}}}, 4},
		{"another: List, Delete, Read", []file{{"log.3", log, []byte{0}}}, 3},
		{"all", mixed().files(), 7},
	} {
		d := lay(t, c.files...)
		if n := calls(d, func() { mustOpen(t, d, 4) }); n != c.want {
			t.Errorf("P14.1: %s: %d calls, want %d", c.what, n, c.want)
		}
	}
}

// What is there when the power goes off at each call tells which calls these are, and in which order.
func TestCallsInOrder(t *testing.T) {
	log := row(ordinary()...)
	files := []file{
		{"z", nil, nil}, {"snap.tmp", []byte("t"), nil}, {"snap", sealed(snapBody(2, told{})), nil}, {"log.3", log, nil},
		{"log.2", log, []byte("torn")}, {"log.10", nil, nil}, {"a", nil, nil},
	}
	whole := list("a", "log.10", "log.2", "log.3", "snap", "snap.tmp", "z")
	for n, want := range [][]string{
		whole, whole, whole, list("log.10", "log.2", "log.3", "snap", "snap.tmp", "z"), list("log.2", "log.3", "snap", "snap.tmp", "z"),
		list("log.2", "snap", "snap.tmp", "z"), list("log.2", "snap", "z"), list("log.2", "snap"), list("log.2", "snap"), list("log.2", "snap"),
	} {
		d := lay(t, files...)
		d.Arm(n, 2)
		got, _, _ := open(t, d, 1)
		if down := n < 9; (got.err == errDown) != down || d.Down() != down || !down && got.err != 0 {
			t.Errorf("P14.1: armed with %d: %d", n, got.err)
		}
		d.Up()
		listIs(t, fmt.Sprint("P14.1: armed with ", n), d, want...)
		left := append(slices.Clone(log), "to"...)
		if n == 9 {
			left = log
		}
		fileIs(t, fmt.Sprint("P14.1: armed with ", n), d, "log.2", left)
	}
}

func TestArmed(t *testing.T) {
	for i, p := range states() {
		whole := lay(t, p.files()...)
		count := calls(whole, func() { mustOpen(t, whole, 6) })
		for n := range count + 3 {
			for _, keep := range []int{-1, 0, 1, 7, 16, 29, 1000, math.MaxInt} {
				what := fmt.Sprint("state ", i, " armed with ", n, ", ", keep)
				got := check(t, what, p.files(), 6, func(d *disk.Disk) { d.Arm(n, keep) })
				if want := n < count; want != (got.err == errDown) || !want && got.err != 0 {
					t.Fatalf("P14.1: %s: %d", what, got.err)
				}
			}
		}
	}
}

func TestFull(t *testing.T) {
	for i, p := range states() {
		for _, n := range []int{1, 2, 1000} {
			got := check(t, fmt.Sprint("state ", i, " full"), p.files(), 6, func(d *disk.Disk) { d.Full(n) })
			if want := p.answer(6); !sameAnswer(got, want) {
				t.Fatalf("P14.1: state %d, full: %s, want %s", i, short(got), short(want))
			}
		}
		// The refusal is for the log that is told, and goes on from there.
		d := lay(t, p.files()...)
		d.Full(1)
		_, l := opened(t, "P14.1: full", d, 6, p.answer(6))
		if err := l.Append(commit(one)); err != errNoSpace {
			t.Errorf("P14.1: state %d: Append: %d, want %d", i, err, errNoSpace)
		}
		opened(t, "P14.3: behind a refusal", d, 6, p.answer(6))
	}
}

// Just what was logged.

func TestOrdinary(t *testing.T) {
	all := ordinary()
	for n := range len(all) + 1 {
		for _, p := range []state{{records: all[:n]}, {gen: 1, base: newBook(), records: all[:n]}, {gen: 4, base: newBook().do(all[:n]...), records: all[n:]}} {
			check(t, fmt.Sprint(n), p.files(), 12, nil)
			d := lay(t, p.files()...)
			opened(t, fmt.Sprint("P14.2: ", n, " records"), d, 12, p.answer(12))
			listIs(t, "P14.3", d, p.kept()...)
		}
	}
	// However the records are dealt to the snapshot and to the log, the same store is told.
	want := newBook().do(all...).told(12)
	for n := range all {
		p := state{gen: 4, base: newBook().do(all[:n]...), records: all[n:]}
		if got := toldBy(mustOpen(t, lay(t, p.files()...), 12)); !same(got, want) {
			t.Errorf("P14.2: dealt at %d: %s, want %s", n, short(got), short(want))
		}
	}
}

// The order of records counts, and each is done as a store does it.
func TestOrder(t *testing.T) {
	x, y := puts(one, "a", "x"), puts(two, "a", "y")
	for _, c := range []struct {
		what    string
		records []api.Record
		last    api.ID
		value   string // of the write one
		count   int
	}{
		{"committed", these(x, commit(one)), one, "x", 1},
		{"a commit ahead of its prepare", these(commit(one), x), 0, "x", 1},
		{"a commit alone", these(commit(one)), 0, "", 0},
		{"prepared alone", these(x, y), 0, "x", 2},
		{"both, in order", these(x, commit(one), y, commit(two)), two, "x", 2},
		{"both, the other way round", these(y, commit(two), x, commit(one)), two, "x", 2},
		{"twice, the first counts", these(x, puts(one, "a", "z"), commit(one)), one, "x", 1},
		{"twice, the first counts", these(puts(one, "a", "z"), x, commit(one), commit(one)), one, "z", 1},
		{"the second committed alone", these(x, y, commit(two)), two, "x", 2},
	} {
		for _, p := range []state{{records: c.records}, {gen: 1, base: newBook(), records: c.records}} {
			s := mustOpen(t, lay(t, p.files()...), 3)
			v, _ := s.ByID("a", one)
			if s.Last("a") != c.last || v.Value != c.value || len(s.Kept()) != c.count {
				t.Errorf("P14.2: %s: the last %d, %q, %d versions", c.what, s.Last("a"), v.Value, len(s.Kept()))
			}
		}
	}
}

// Records of the log that speak of what the snapshot has.
func TestOnTopOfTheSnapshot(t *testing.T) {
	base := newBook().do(prepare(one, list("a", "b"), pair("a", "1"), pair("b", "1")), prepare(two, list("a", "b"), pair("a", "2"), pair("b", "2")), puts(three, "a", "3"), commit(two))
	for what, c := range map[string]struct {
		records []api.Record
		last    api.ID // of a
		value   string // of a's version of its last
		count   int
	}{
		"nothing":                       {nil, two, "2", 5},
		"what was prepared, committed":  {these(commit(three)), three, "3", 5},
		"what was committed, again":     {these(commit(two), commit(one)), two, "2", 5},
		"what was put, otherwise":       {these(puts(two, "a", "otherwise"), puts(three, "a", "too"), commit(three)), three, "3", 5},
		"a late one":                    {these(puts(one+1, "a", "late"), commit(one+1)), two, "2", 6},
		"one between":                   {these(puts(two+1, "a", "between"), commit(two+1)), two + 1, "between", 6},
		"another key of the same write": {these(prepare(three, list("a", "c"), pair("c", "3")), commit(three)), three, "3", 6},
	} {
		p := state{gen: 9, base: base, records: c.records}
		check(t, what, p.files(), 3, nil)
		s, _ := opened(t, "P14.2: "+what, lay(t, p.files()...), 3, p.answer(3))
		if s.Last("a") != c.last || s.Latest("a").Value != c.value || len(s.Kept()) != c.count {
			t.Errorf("P14.2: %s: the last %d, %q, %d versions", what, s.Last("a"), s.Latest("a").Value, len(s.Kept()))
		}
	}
}

// The log ends within a record, at each byte, that end synced or not.
func TestTornAtEachByte(t *testing.T) {
	whole := ordinary()
	for _, torn := range []api.Record{commit(1 << 40), puts(1<<40, "a", "torn"), prepare(1<<40, list("a", "b", "c"), pair("a", ""), pair("c", "x"))} {
		b := row(torn)
		for n := range b {
			for _, p := range []state{{torn: b[:n]}, {tail: b[:n]}, {records: whole, torn: b[:n]}, {records: whole, torn: b[:n/2], tail: b[n/2 : n]},
				{gen: 3, base: newBook().do(whole...), tail: b[:n]}, {gen: 3, base: newBook().do(whole...), records: whole, torn: b[:n]}} {
				what := fmt.Sprint("torn behind ", n)
				check(t, what, p.files(), 5, nil)
				d := lay(t, p.files()...)
				_, l := opened(t, "P14.2: "+what, d, 5, p.answer(5))
				listIs(t, "P14.3: "+what, d, p.kept()...)
				if slices.Contains(p.kept(), p.log()) {
					fileIs(t, "P14.2: "+what, d, p.log(), row(p.records...))
				}
				if err := l.Append(torn); err != 0 {
					t.Fatalf("P14.4: Append: %d", err)
				}
				p.records, p.torn, p.tail = append(slices.Clone(p.records), torn), nil, nil
				opened(t, "P14.4: "+what, d, 5, p.answer(5))
			}
		}
	}
}

// refusedByStores is records that no store takes; all of them can be laid with a right checksum.
func refusedByStores() []api.Record {
	long := strings.Repeat("k", 65536)
	var many []string
	for i := range 1025 {
		many = append(many, fmt.Sprintf("%04d", i))
	}
	x := pair("a", "1")
	return []api.Record{
		commit(0), commit(1), commit(65535), prepare(65535, list("a"), x), prepare(0, list("a"), x), prepare(one, list("a")), prepare(one, nil, x), prepare(one, nil),
		prepare(one, list("b", "a"), x), prepare(one, list("a", "a"), x), prepare(one, list("b"), x), prepare(one, list("a"), x, x),
		prepare(one, list("a", "b"), pair("b", ""), x), prepare(one, list(long), pair(long, "")), prepare(one, list("a"), pair("a", long)), prepare(one, many, pair(many[0], "")),
		{Kind: 0, ID: one}, {Kind: 3, ID: one}, {Kind: 255, ID: one, Pairs: []api.Pair{x}, Keys: list("a")}, {Kind: kCommit, ID: one, Keys: list("a")},
	}
}

// What a store would refuse is no whole record: the log ends ahead of it, and what stands behind is gone with it.
func TestRecordsThatStoresRefuse(t *testing.T) {
	for i, r := range refusedByStores() {
		if _, err := store.New().Put(r.ID, r.Pairs, r.Keys, 1); r.Kind == kPrepare && err == 0 {
			t.Fatalf("the test's record %d is one that a store takes", i)
		}
		for _, ahead := range [][]api.Record{nil, ordinary()} {
			for _, p := range []state{{records: ahead}, {gen: 2, base: newBook().do(ordinary()...), records: ahead}} {
				p.torn = slices.Concat(row(r), row(puts(lastID, "a", "behind"), commit(lastID)))
				what := fmt.Sprint("record ", i, " behind ", len(ahead))
				check(t, what, p.files(), 5, nil)
				d := lay(t, p.files()...)
				opened(t, "P14.1: "+what, d, 5, p.answer(5))
				fileIs(t, "P14.1: "+what, d, p.log(), row(ahead...))
				opened(t, "P14.3: "+what, d, 5, p.answer(5))
			}
		}
	}
}

// What a crash doesn't leave: changed bytes in the midst of a log end it there.
func TestSpoiltLogs(t *testing.T) {
	records := []api.Record{puts(one, "a", "x"), commit(one), puts(two, "a", "y"), commit(two)}
	b := row(records...)
	for at := range b {
		for _, bit := range []byte{1, 0x80} {
			c := slices.Clone(b)
			c[at] ^= bit
			check(t, fmt.Sprint("byte ", at), []file{{"log.0", c, nil}}, 5, nil)
			check(t, fmt.Sprint("byte ", at), []file{{"log.5", c, nil}, {"snap", sealed(snapBody(5, newBook().do(records...).told(0))), nil}}, 5, nil)
		}
	}
	check(t, "a snapshot as the log", []file{{"log.0", sealed(snapBody(1, told{})), nil}}, 5, nil)
	check(t, "text", []file{{"log.0", []byte("some text, and no record"), nil}}, 5, nil)
	check(t, "noughts", []file{{"log.0", make([]byte, 100), nil}}, 5, nil)
}

// Things of chance.

type chance struct{ *rand.Rand }

func newChance(seed int) chance { return chance{rand.New(rand.NewSource(int64(seed)))} }

func (c chance) keys() []string {
	all := list("", "a", "a\x00", "b", "c", "\xff")
	var out []string
	for len(out) == 0 {
		for _, key := range all {
			if c.Intn(2) == 0 {
				out = append(out, key)
			}
		}
	}
	return out
}

func (c chance) id() api.ID {
	l := []api.ID{one, one + 1, one + 65535, two, two + 3, three, 1 << 32, 1 << 48, 1<<63 - 1, 1 << 63, lastID - 1, lastID}
	return l[c.Intn(len(l))]
}

func (c chance) bytes(n int) []byte {
	b := make([]byte, c.Intn(n))
	c.Read(b)
	return b
}

func (c chance) record() api.Record {
	if c.Intn(3) == 0 {
		return commit(c.id())
	}
	r := prepare(c.id(), c.keys())
	for len(r.Pairs) == 0 {
		for _, key := range r.Keys {
			if c.Intn(3) != 0 {
				r.Pairs = append(r.Pairs, pair(key, string(c.bytes(12))))
			}
		}
	}
	return r
}

func (c chance) records(n int) []api.Record {
	var out []api.Record
	for range c.Intn(n) {
		out = append(out, c.record())
	}
	return out
}

// base is what a store has that has done records and dropped some of what is old.
func (c chance) base() book {
	b := newBook().do(c.records(40)...)
	for _, k := range b.told(0).kept {
		if k.Stamp == 0 && c.Intn(2) == 0 {
			delete(b.versions, api.Want{Key: k.Version.Key, ID: k.Version.ID})
		}
	}
	return b
}

func (c chance) gen() int64 {
	switch c.Intn(4) {
	case 0:
		return 0
	case 1:
		return 1 + c.Int63n(20)
	case 2:
		return lastGen - c.Int63n(3)
	}
	return 1 + c.Int63n(lastGen)
}

func (c chance) others(p state) []file {
	names := list("snap.tmp", "log.1", "log.2", "log.3", "else", "\x00", "Snap", "log.00", "log.", fmt.Sprintf("log.%d", p.gen-1), fmt.Sprintf("log.%d", p.gen/10))
	slices.Sort(names)
	var out []file
	for _, name := range slices.Compact(names) {
		if name != p.log() && c.Intn(3) == 0 {
			out = append(out, file{name, append(row(c.records(3)...), c.bytes(5)...), c.bytes(9)})
		}
	}
	c.Shuffle(len(out), func(i, j int) { out[i], out[j] = out[j], out[i] })
	return out
}

// state is one of P14.2: the torn end, of which some is synced, is the beginning of a record.
func (c chance) state() state {
	p := state{gen: c.gen(), base: c.base(), records: c.records(30)}
	p.others = c.others(p)
	torn := row(c.record())
	torn = torn[:c.Intn(len(torn))]
	at := c.Intn(len(torn) + 1)
	p.torn, p.tail = torn[:at], torn[at:]
	return p
}

// TestJustWhatWasLogged: against Put and Commit of the same records in order, done to a store with what the snapshot has.
func TestJustWhatWasLogged(t *testing.T) {
	old, fresh, torn := 0, 0, 0
	for seed := range 3000 {
		c := newChance(seed)
		p, now := c.state(), c.Int63n(50)
		d := lay(t, p.files()...)
		s, _ := opened(t, fmt.Sprint("P14.2: seed ", seed), d, now, p.answer(now))
		want := replayed(t, p, now)
		if !same(toldBy(s), toldBy(want)) {
			t.Fatalf("P14.2: seed %d: %s, want %s", seed, short(toldBy(s)), short(toldBy(want)))
		}
		listIs(t, fmt.Sprint("P14.3: seed ", seed), d, p.kept()...)
		goesOn(t, fmt.Sprint("P14.2: seed ", seed), c, s, want, now)
		for _, k := range want.Kept() {
			if k.Stamp == -1 {
				fresh++
			} else {
				old++
			}
		}
		if len(p.torn)+len(p.tail) > 0 {
			torn++
		}
	}
	if old < 1000 || fresh < 1000 || torn < 1000 {
		t.Errorf("the test's stores have %d old versions and %d others, %d logs are torn", old, fresh, torn)
	}
}

// replayed is a store with what the snapshot has, behind Put and Commit.
func replayed(t *testing.T, p state, now int64) *store.Store {
	t.Helper()
	base := told{}
	if p.gen > 0 {
		base = p.base.told(now)
	}
	s, err := store.Load(base.kept, base.lasts)
	if err != 0 {
		t.Fatalf("the test's Load: %d", err)
	}
	do(t, s, now, p.records...)
	return s
}

func do(t *testing.T, s *store.Store, now int64, l ...api.Record) {
	t.Helper()
	for _, r := range l {
		var err api.Errno
		if r.Kind == kCommit {
			_, err = s.Commit(r.ID, now)
		} else {
			_, err = s.Put(r.ID, r.Pairs, r.Keys, now)
		}
		if err != 0 {
			t.Fatalf("the test's record %+v: %d", r, err)
		}
	}
}

// goesOn looks that the store that was told answers later calls as the other one does, drops of what is old among them.
func goesOn(t *testing.T, what string, c chance, s, want *store.Store, now int64) {
	t.Helper()
	for range 12 {
		now += c.Int63n(3)
		r := c.record()
		if c.Intn(3) == 0 {
			key := c.keys()[0]
			if a, b := s.Drop(key, r.ID), want.Drop(key, r.ID); a != b {
				t.Fatalf("%s: Drop(%q, %d) = %d, want %d", what, key, r.ID, a, b)
			}
			continue
		}
		if s.Has(r.ID) != want.Has(r.ID) || s.Committed(r.ID) != want.Committed(r.ID) {
			t.Fatalf("%s: of %d: %d, %v", what, r.ID, s.Has(r.ID), s.Committed(r.ID))
		}
		do(t, s, now, r)
		do(t, want, now, r)
	}
	if !same(toldBy(s), toldBy(want)) {
		t.Fatalf("%s: later: %s, want %s", what, short(toldBy(s)), short(toldBy(want)))
	}
}

// TestAnyDisk: files of chance, lawful or not, armed or not, against the model.
func TestAnyDisk(t *testing.T) {
	count := map[api.Errno]int{}
	for seed := range 6000 {
		c := newChance(100000 + seed)
		files := c.state().files()
		for range c.Intn(3) {
			files = c.mangled(files)
		}
		n, keep, full := c.Intn(24)-8, c.Intn(40), c.Intn(4)
		got := check(t, fmt.Sprint("seed ", seed), files, c.Int63n(30), func(d *disk.Disk) {
			d.Full(full)
			d.Arm(n, keep)
		})
		count[got.err]++
	}
	if count[0] < 300 || count[errDown] < 300 || count[errCorrupt] < 300 {
		t.Errorf("the test's disks are answered %v", count)
	}
}

// mangled is files of which one is changed: bytes of it, or how much is synced, or its name.
func (c chance) mangled(files []file) []file {
	if len(files) == 0 {
		return files
	}
	out := slices.Clone(files)
	f := &out[c.Intn(len(out))]
	switch c.Intn(4) {
	case 0:
		b := slices.Clone(f.synced)
		if len(b) > 0 {
			b[c.Intn(len(b))] ^= 1 << c.Intn(8)
		}
		f.synced = b
	case 1:
		f.synced = f.synced[:c.Intn(len(f.synced)+1)]
	case 2:
		at := c.Intn(len(f.synced) + 1)
		f.synced, f.tail = f.synced[:at], slices.Concat(f.synced[at:], f.tail)
	case 3:
		name := list("snap", "log.0", "log.5", "a", "snap.tmp")[c.Intn(5)]
		if !slices.ContainsFunc(out, func(o file) bool { return o.name == name }) {
			f.name = name
		}
	}
	return out
}

// Again and again.

func TestOpenBehindOpen(t *testing.T) {
	for i, p := range states() {
		d := lay(t, p.files()...)
		what := fmt.Sprint("P14.3: state ", i)
		opened(t, what, d, 6, p.answer(6))
		was := lookAt(d)
		for turn := range 4 {
			if turn > 1 {
				crashed(d, 0)
			}
			opened(t, what, d, 6, p.answer(6))
			if is := lookAt(d); is != was {
				t.Fatalf("%s: behind Open again the disk holds\n%s\nwant\n%s", what, short(is), short(was))
			}
			listIs(t, what, d, p.kept()...)
		}
		opened(t, what, d, 8, p.answer(8))
	}
}

// TestUpToThreeTimes: the power goes off at each call of an Open, and of the one behind it, and of the third.
func TestUpToThreeTimes(t *testing.T) {
	p := mixed()
	want := p.answer(6)
	const most = 7
	for n := range (most + 1) * (most + 1) * (most + 1) {
		at := [3]int{n % (most + 1), n / (most + 1) % (most + 1), n / (most + 1) / (most + 1)}
		for k := range 4 * 4 {
			keep := [3]int{[]int{0, 1, 29, 1000}[k%4], []int{0, 1, 29, 1000}[k/4], k}
			d := lay(t, p.files()...)
			for i := range at {
				d.Arm(at[i], keep[i])
				got, _, _ := open(t, d, 6)
				if got.err == 0 && !sameAnswer(got, want) || got.err != 0 && got.err != errDown {
					t.Fatalf("P14.3: armed with %v, %v: turn %d: %s", at, keep, i, short(got))
				}
				if d.Down() != (got.err == errDown) {
					t.Fatalf("P14.1: armed with %v, %v: turn %d: %d, and the power is off: %v", at, keep, i, got.err, d.Down())
				}
				d.Up()
			}
			opened(t, fmt.Sprint("P14.3: armed with ", at, keep), d, 6, want)
			listIs(t, fmt.Sprint("P14.3: armed with ", at, keep), d, "log.2", "snap")
			fileIs(t, "P14.3", d, "log.2", row(p.records...))
		}
	}
}

func TestPowerOffOfChance(t *testing.T) {
	for seed := range 2000 {
		c := newChance(200000 + seed)
		p, now := c.state(), c.Int63n(50)
		d, twin := lay(t, p.files()...), lay(t, p.files()...)
		want := p.answer(now)
		for range 1 + c.Intn(3) {
			d.Arm(c.Intn(14), c.Intn(30))
			if got, _, _ := open(t, d, now); got.err != errDown && !sameAnswer(got, want) {
				t.Fatalf("P14.3: seed %d: %s, want %s", seed, short(got), short(want))
			}
			d.Up()
		}
		opened(t, fmt.Sprint("P14.3: seed ", seed), d, now, want)
		opened(t, fmt.Sprint("P14.3: seed ", seed), twin, now, want)
		listIs(t, fmt.Sprint("P14.3: seed ", seed), d, p.kept()...)
		if a, b := dissect(d), dissect(twin); a != b {
			t.Fatalf("P14.3: seed %d: the disk is\n%s\nwant\n%s", seed, short(a), short(b))
		}
	}
}

// Going on.

func TestGoingOn(t *testing.T) {
	for i, p := range states() {
		what := fmt.Sprint("P14.4: state ", i)
		d := lay(t, p.files()...)
		_, l := opened(t, what, d, 6, p.answer(6))
		p.torn, p.tail, p.others = nil, nil, nil
		for _, r := range ordinary() {
			if err := l.Append(r); err != 0 {
				t.Fatalf("%s: Append: %d", what, err)
			}
			p.records = append(slices.Clone(p.records), r)
			// The log of the Open ahead is good still: it goes on in turns with the new one.
			_, next := opened(t, what, d, 6, p.answer(6))
			if len(p.records)%2 == 0 {
				l = next
			}
			if l.Size() != next.Size() {
				t.Fatalf("%s: the logs tell %d, %d", what, l.Size(), next.Size())
			}
			fileIs(t, what, d, p.log(), row(p.records...))
			listIs(t, what, d, p.kept()...)
		}
		crashed(d, 0)
		opened(t, what, d, 6, p.answer(6))
		twin := lay(t, p.files()...)
		opened(t, what, twin, 6, p.answer(6))
		if a, b := dissect(d), dissect(twin); a != b {
			t.Fatalf("%s: the disk is\n%s\nwant\n%s", what, short(a), short(b))
		}
	}
}

// life is a partition's disk over many Opens: what must be told is known at each moment.
type life struct {
	c chance
	d *disk.Disk
	p state
	l *wal.Log
}

func (x *life) open(t *testing.T, what string) {
	t.Helper()
	now := x.c.Int63n(40)
	for x.c.Intn(3) == 0 {
		x.d.Arm(x.c.Intn(9), x.c.Intn(40))
		if got, _, _ := open(t, x.d, now); got.err != errDown && !sameAnswer(got, x.p.answer(now)) {
			t.Fatalf("%s: %s, want %s", what, short(got), short(x.p.answer(now)))
		}
		x.d.Up()
	}
	_, x.l = opened(t, what, x.d, now, x.p.answer(now))
	names, _ := x.d.List()
	for _, name := range names {
		if name != "snap" && name != x.p.log() {
			t.Fatalf("%s: %q is there", what, name)
		}
	}
}

// append lays records by the log that was told; one that the power went off at is there, if all its bytes stayed.
func (x *life) append(t *testing.T, what string) {
	t.Helper()
	for range x.c.Intn(6) {
		r := x.c.record()
		size := len(row(r))
		x.d.Full(x.c.Intn(8) / 7)
		n, keep := x.c.Intn(30), x.c.Intn(2*size)
		x.d.Arm(n, keep)
		err := x.l.Append(r)
		there := err == 0 || err == errDown && n == 1 && keep >= size
		if there {
			x.p.records = append(slices.Clone(x.p.records), r)
		}
		if err == errDown {
			x.d.Up()
			return
		}
		if err != 0 && err != errNoSpace {
			t.Fatalf("%s: Append: %d", what, err)
		}
		x.d.Arm(-1, 0)
	}
	crashed(x.d, x.c.Intn(3))
}

// compact lays what is there as a snapshot of the next generation, leaving files over as a crash may.
func (x *life) compact(t *testing.T, what string) {
	t.Helper()
	x.d.Full(0)
	all := newBook()
	if x.p.gen > 0 {
		all = x.p.base
	}
	all = all.copy().do(x.p.records...)
	image := sealed(snapBody(x.p.gen+1, all.told(0)))
	n := len(image)
	done := x.c.Intn(3) != 0
	if !done {
		n = x.c.Intn(n)
	}
	if x.d.Append("snap.tmp", image[:n]) != 0 || x.c.Intn(2) == 0 && x.d.Sync("snap.tmp") != 0 {
		t.Fatalf("%s: the test's snapshot isn't laid", what)
	}
	if !done {
		crashed(x.d, x.c.Intn(n+1))
		return
	}
	x.d.Sync("snap.tmp")
	x.d.Rename("snap.tmp", "snap")
	if x.c.Intn(2) == 0 {
		x.d.Delete(x.p.log())
	}
	x.p = state{gen: x.p.gen + 1, base: all}
}

func TestLives(t *testing.T) {
	for seed := range 400 {
		c := newChance(300000 + seed)
		x := &life{c: c, d: disk.New()}
		for turn := range 25 {
			what := fmt.Sprint("P14.4: seed ", seed, ", turn ", turn)
			x.open(t, what)
			x.append(t, what)
			if c.Intn(4) == 0 {
				x.compact(t, what)
			}
			if c.Intn(4) == 0 {
				x.d.Full(0)
				x.d.Append(list("else", "log.-1", "Snap", "log.99999")[c.Intn(4)], c.bytes(20))
			}
		}
		if x.p.gen == 0 && len(x.p.records) == 0 {
			t.Errorf("the test's life of seed %d is empty", seed)
		}
	}
}

// Apart.

func TestApart(t *testing.T) {
	for seed := range 300 {
		c := newChance(400000 + seed)
		p, now := c.state(), int64(20)
		d, twin := lay(t, p.files()...), lay(t, p.files()...)
		mustOpen(t, twin, now)
		x, y, want := mustOpen(t, d, now), mustOpen(t, d, now), p.answer(now).told
		for range 30 {
			do(t, x, now+c.Int63n(9), c.record())
			x.Drop(c.keys()[0], c.id())
		}
		if !same(toldBy(y), want) {
			t.Fatalf("P14.5: seed %d: what was done to a store changed another to %s, want %s", seed, short(toldBy(y)), short(want))
		}
		was := toldBy(x)
		for range 30 {
			do(t, y, now+c.Int63n(9), c.record())
			y.Drop(c.keys()[0], c.id())
		}
		if !same(toldBy(x), was) {
			t.Fatalf("P14.5: seed %d: what was done to the second store changed the first", seed)
		}
		if z := mustOpen(t, d, now); !same(toldBy(z), want) {
			t.Fatalf("P14.5: seed %d: what was done to stores is told by the next Open", seed)
		}
		if a, b := dissect(d), dissect(twin); a != b {
			t.Fatalf("P14.5: seed %d: what was done to stores changed the disk", seed)
		}
	}
}

// Each thing that can be done to one by itself.
func TestApartOneByOne(t *testing.T) {
	for what, f := range map[string]func(s *store.Store){
		"Put of a new key":     func(s *store.Store) { do(t, s, 9, puts(three, "new", "")) },
		"Put above the last":   func(s *store.Store) { do(t, s, 9, puts(1<<50, "a", "")) },
		"Put below the last":   func(s *store.Store) { do(t, s, 9, puts(one+9, "a", "")) },
		"Commit":               func(s *store.Store) { do(t, s, 9, commit(three+1)) },
		"Drop":                 func(s *store.Store) { s.Drop("a", one) },
		"Drop, and Put again":  func(s *store.Store) { s.Drop("a", one); do(t, s, 30, puts(one, "a", "")) },
		"what Kept told":       func(s *store.Store) { s.Kept()[1].Version.Keys[0] = "!"; do(t, s, 9, puts(three, "z", "")) },
		"what Lasts told":      func(s *store.Store) { s.Lasts()[0].ID = 1; do(t, s, 9, puts(three, "z", "")) },
		"what Latest told":     func(s *store.Store) { s.Latest("b").Keys[1] = "!"; do(t, s, 9, puts(three, "z", "")) },
		"what was put, by all": func(s *store.Store) { do(t, s, 9, puts(lastID, "a", ""), commit(lastID)) },
	} {
		d := lay(t, mixed().files()...)
		x, y := mustOpen(t, d, 7), mustOpen(t, d, 7)
		want := mixed().answer(7).told
		f(x)
		if same(toldBy(x), want) {
			t.Errorf("the test's %s did nothing", what)
		}
		if !same(toldBy(y), want) || !same(toldBy(mustOpen(t, d, 7)), want) {
			t.Errorf("P14.5: %s changed another store", what)
		}
	}
}

// The logs that two Opens told: what is appended to one changes no store, and the stores of two disks are apart.
func TestLogsAndStores(t *testing.T) {
	d, e := lay(t, mixed().files()...), lay(t, mixed().files()...)
	x, l := opened(t, "P14.5", d, 7, mixed().answer(7))
	y, _ := opened(t, "P14.5", e, 7, mixed().answer(7))
	if err := l.Append(puts(lastID-1, "a", "")); err != 0 {
		t.Fatal(err)
	}
	want := mixed().answer(7)
	if !same(toldBy(x), want.told) || !same(toldBy(y), want.told) {
		t.Errorf("P14.5: an Append changed a store")
	}
	opened(t, "P14.5: the other disk", e, 7, want)
	do(t, x, 9, puts(lastID, "q", ""))
	fileIs(t, "P14.5", d, "log.2", row(append(mixed().records, puts(lastID-1, "a", ""))...))
}

// Memory and great disks.

func inUse() int64 {
	runtime.GC()
	runtime.GC()
	var m runtime.MemStats
	runtime.ReadMemStats(&m)
	return int64(m.HeapAlloc)
}

// great is a prepare of nearly the longest payload.
func great(id api.ID, value byte) api.Record {
	r := prepare(id, nil)
	for i := range 15 {
		key := fmt.Sprintf("%04d", i)
		r.Keys = append(r.Keys, key)
		r.Pairs = append(r.Pairs, pair(key, strings.Repeat(string(rune(value)), 65535)))
	}
	return r
}

// Neither the log's bytes nor its records stay with what is told, nor those of files that were deleted.
func TestNothingElseIsKept(t *testing.T) {
	before := inUse()
	var records []api.Record
	for range 30 {
		records = append(records, great(one, 'v'))
	}
	d := lay(t, file{"log.0", row(records...), nil}, file{"log.1", row(records...), nil})
	records = nil
	s, l, _, err := Open(d, 1)
	if err != 0 || s.Has(one) != 15 || l.Size() < 28<<20 {
		t.Fatalf("P14.1: Open: %d, %d versions, %d bytes", err, s.Has(one), l.Size())
	}
	if err := d.Delete("log.0"); err != 0 {
		t.Fatal(err)
	}
	if grown := inUse() - before; grown > 8*longest {
		t.Errorf("P14.1: %d bytes are kept of a store of %d", grown, longest)
	}
	runtime.KeepAlive(s)
	runtime.KeepAlive(l)
	runtime.KeepAlive(d)
}

func TestGreatDisk(t *testing.T) {
	base := newBook()
	var records []api.Record
	for i := range 20000 {
		id := one + api.ID(i)
		base.do(puts(id, fmt.Sprint("base", i), "x"))
		base.lasts[fmt.Sprint("base", i)] = id
		records = append(records, prepare(lastID-api.ID(i), list(fmt.Sprint(i), "a", "b"), pair(fmt.Sprint(i), "1"), pair("a", "2")))
	}
	for i := range 300 {
		records = append(records, commit(lastID-20000+api.ID(i+1)))
	}
	p := state{gen: 77, base: base, records: records, torn: []byte("torn")}
	d := lay(t, p.files()...)
	want := p.answer(3)
	opened(t, "P14.2: a great disk", d, 3, want)
	opened(t, "P14.3: a great disk", d, 3, want)
}

func TestLongestRecords(t *testing.T) {
	p := state{gen: 1, base: newBook().do(great(one, 'x'), commit(one)), records: []api.Record{great(two, 'y'), commit(two), great(three, 'z')}}
	p.torn = row(great(lastID, 't'))
	p.torn = p.torn[:len(p.torn)-1]
	d := lay(t, p.files()...)
	opened(t, "P14.2: the longest records", d, 3, p.answer(3))
	fileIs(t, "P14.2: the longest records", d, "log.1", row(p.records...))
}
