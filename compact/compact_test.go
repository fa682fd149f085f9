package compact

import (
	"bytes"
	"encoding/binary"
	"fmt"
	"hash/crc32"
	"math"
	"math/rand"
	"runtime"
	"slices"
	"strings"
	"testing"

	"rampart/api"
	"rampart/boot"
	"rampart/disk"
	"rampart/snap"
	"rampart/store"
	"rampart/wal"
)

// The chapter's numbers, not api's.
const (
	kPrepare = 1
	kCommit  = 2

	one      = api.ID(65536)  // client 0's first write
	two      = api.ID(131072) // its second
	three    = api.ID(196608) // and its third
	lastID   = api.ID(1<<64 - 1)
	maxTick  = int64(1) << 40
	lastGen  = maxTick - 1 // that may be given up
	maxFiles = 16

	errArg     = api.Errno(1)
	errLong    = api.Errno(3)
	errNoSpace = api.Errno(60)
	errFile    = api.Errno(61)
	errDown    = api.Errno(62)
)

// Records and snapshots as bytes, laid apart from the layers below.

func be32(b []byte, n int) []byte { return binary.BigEndian.AppendUint32(b, uint32(n)) }

func be64(b []byte, n uint64) []byte { return binary.BigEndian.AppendUint64(b, n) }

func text(b []byte, s string) []byte { return append(be32(b, len(s)), s...) }

func texts(b []byte, l []string) []byte {
	b = be32(b, len(l))
	for _, s := range l {
		b = text(b, s)
	}
	return b
}

func crc(b []byte) int { return int(crc32.ChecksumIEEE(b)) }

func payload(r api.Record) []byte {
	b := be64([]byte{byte(r.Kind)}, uint64(r.ID))
	if r.Kind == kCommit {
		return b
	}
	b = be32(b, len(r.Pairs))
	for _, p := range r.Pairs {
		b = text(text(b, p.Key), p.Value)
	}
	return texts(b, r.Keys)
}

// row is the bytes of records, one behind the other.
func row(l ...api.Record) []byte {
	var b []byte
	for _, r := range l {
		p := payload(r)
		b = append(be32(be32(b, len(p)), crc(p)), p...)
	}
	return b
}

// image is a snapshot, with its checksum.
func image(gen int64, s told) []byte {
	b := be64([]byte("ramp\x01"), uint64(gen))
	b = be32(b, len(s.lasts))
	for _, l := range s.lasts {
		b = be64(text(b, l.Key), uint64(l.ID))
	}
	b = be32(b, len(s.kept))
	for _, k := range s.kept {
		v := k.Version
		b = texts(text(be64(text(b, v.Key), uint64(v.ID)), v.Value), v.Keys)
	}
	return be32(b, crc(b))
}

// Records to begin with.

func commit(id api.ID) api.Record { return api.Record{Kind: kCommit, ID: id} }

func pair(key, value string) api.Pair { return api.Pair{Key: key, Value: value} }

func list(keys ...string) []string { return keys }

func prepare(id api.ID, keys []string, pairs ...api.Pair) api.Record {
	return api.Record{Kind: kPrepare, ID: id, Pairs: pairs, Keys: keys}
}

// puts is a prepare of one key with one value.
func puts(id api.ID, key, value string) api.Record { return prepare(id, list(key), pair(key, value)) }

// ordinary is records of both kinds: committed writes, prepared ones, late ones, one again with another value.
func ordinary() []api.Record {
	return []api.Record{
		prepare(one, list("a", "b", "far"), pair("a", "1"), pair("b", "2")), commit(one),
		prepare(two+1, list("", "a"), pair("", ""), pair("a", "x\x00y")),
		prepare(three, list("a", "c"), pair("a", strings.Repeat("v", 40)), pair("c", "\xff")), commit(three), commit(two + 1),
		puts(two, "a", "late"), commit(two), puts(two, "a", "again, and another"), puts(lastID, "b", "prepared alone"), commit(two + 7),
	}
}

// more is records that go on from there.
func more() []api.Record {
	return []api.Record{puts(1<<40, "a", "new"), commit(1 << 40), prepare(three+1, list("b", "d"), pair("b", "p"), pair("d", "q")), commit(lastID)}
}

// What a store tells.

type told struct {
	kept  []api.Kept
	lasts []api.Last
}

func toldBy(s *store.Store) told { return told{s.Kept(), s.Lasts()} }

func sameKept(a, b api.Kept) bool {
	v, w := a.Version, b.Version
	return a.Stamp == b.Stamp && v.Key == w.Key && v.ID == w.ID && v.Value == w.Value && slices.Equal(v.Keys, w.Keys)
}

func same(a, b told) bool {
	return slices.Equal(a.lasts, b.lasts) && slices.EqualFunc(a.kept, b.kept, sameKept)
}

// at is what is told with every stamp of an old version at now: stamps are not in files.
func (x told) at(now int64) told {
	kept := slices.Clone(x.kept)
	for i := range kept {
		if kept[i].Stamp != -1 {
			kept[i].Stamp = now
		}
	}
	return told{kept, x.lasts}
}

func newStore(t *testing.T, l ...api.Record) *store.Store {
	t.Helper()
	s := store.New()
	do(t, s, 1, l...)
	return s
}

// copied is a store that tells the same, stamps too.
func copied(t *testing.T, s *store.Store) *store.Store {
	t.Helper()
	u, err := store.Load(s.Kept(), s.Lasts())
	if err != 0 {
		t.Fatalf("the test's Load: %d", err)
	}
	return u
}

func do(t *testing.T, s *store.Store, now int64, l ...api.Record) {
	t.Helper()
	for _, r := range l {
		var err api.Errno
		if r.Kind == kCommit {
			_, err = s.Commit(r.ID, now)
		} else {
			_, err = s.Put(r.ID, r.Pairs, r.Keys, now)
		}
		if err != 0 {
			t.Fatalf("the test's record %+v: %d", r, err)
		}
	}
}

// stores is stores of all kinds.
func stores(t *testing.T) []*store.Store {
	t.Helper()
	dropped := newStore(t, ordinary()...)
	for _, k := range dropped.Kept() {
		if k.Stamp != -1 && k.Version.ID != two {
			dropped.Drop(k.Version.Key, k.Version.ID)
		}
	}
	great := strings.Repeat("g", 65535)
	return []*store.Store{
		newStore(t), newStore(t, puts(one, "a", "1")), newStore(t, puts(one, "a", "1"), commit(one)), newStore(t, ordinary()...), dropped,
		newStore(t, append(ordinary(), more()...)...), newStore(t, puts(one, "", ""), commit(one), puts(lastID, "", "z"), commit(lastID)),
		newStore(t, prepare(two, list("", great), pair(great, great)), commit(two)),
	}
}

// short tells a thing, but not all of a long one.
func short(x any) string {
	s := fmt.Sprintf("%#v", x)
	switch x := x.(type) {
	case string:
		s = x
	case []byte:
		s = fmt.Sprintf("%q", x)
	}
	if len(s) > 900 {
		return s[:800] + " and on, " + fmt.Sprint(len(s)) + " signs in all"
	}
	return s
}

// Disks.

type file struct {
	name   string
	synced []byte
	tail   []byte // what stands behind it, not synced
}

func diskOf(t *testing.T, files ...file) *disk.Disk {
	t.Helper()
	d := disk.New()
	for _, f := range files {
		f.on(t, d)
	}
	return d
}

func (f file) on(t *testing.T, d *disk.Disk) {
	t.Helper()
	if d.Append(f.name, f.synced) != 0 || d.Sync(f.name) != 0 || d.Append(f.name, f.tail) != 0 {
		t.Fatalf("the test's file %q isn't laid", f.name)
	}
}

func logName(gen int64) string { return fmt.Sprintf("log.%d", gen) }

// litter is a disk for the generation gen with files of every kind; of each something isn't synced.
func litter(gen int64) []file {
	b := row(ordinary()...)
	return []file{
		{"snap", image(max(gen, 1), told{}), []byte("behind")}, {"snap.tmp", image(gen+1, told{})[:20], []byte("and on")},
		{logName(gen), b, b[:5]}, {logName(gen + 1), b, b[:9]}, {logName(gen + 2), b, b}, {logName(gen - 1), nil, b}, {"else", []byte("x"), []byte("y")},
	}
}

// somes is all choices among some files.
func somes(files []file) [][]file {
	out := [][]file{nil}
	for _, f := range files {
		for _, l := range slices.Clone(out) {
			out = append(out, append(slices.Clone(l), f))
		}
	}
	return out
}

func lookAt(d *disk.Disk) string {
	var s strings.Builder
	names, err := d.List()
	fmt.Fprintln(&s, len(names), err)
	for _, name := range names {
		b, err := d.Read(name)
		fmt.Fprintf(&s, "%q %q %d\n", name, b, err)
	}
	return s.String()
}

// dissect tells all of a disk: whether it is down, what it is armed with, its refusals, and which bytes are synced. It is of no use then.
func dissect(d *disk.Disk) string {
	var s strings.Builder
	fmt.Fprint(&s, d.Down(), " ")
	for range maxFiles + 10 {
		_, err := d.List()
		fmt.Fprint(&s, int(err), " ")
	}
	d.Up()
	s.WriteString(lookAt(d))
	// To a file that is there: there may be as many as a disk has.
	probe := "probe"
	if names, _ := d.List(); len(names) > 0 {
		probe = names[0]
	}
	for range 5 {
		fmt.Fprint(&s, int(d.Append(probe, []byte("p"))), " ")
	}
	crashed(d, 0)
	s.WriteString(lookAt(d))
	return s.String()
}

func crashed(d *disk.Disk, keep int) {
	d.Crash(keep)
	d.Up()
}

func listIs(t *testing.T, what string, d *disk.Disk, want ...string) {
	t.Helper()
	if l, err := d.List(); err != 0 || !slices.Equal(l, want) {
		t.Fatalf("%s: the disk has %q, %d, want %q", what, l, err, want)
	}
}

func fileIs(t *testing.T, what string, d *disk.Disk, name string, want []byte) {
	t.Helper()
	if b, err := d.Read(name); err != 0 || !bytes.Equal(b, want) {
		t.Fatalf("%s: the file %q is %s, %d, want %s", what, name, short(b), err, short(want))
	}
}

// calls is how many counted calls of a disk f makes; the power is on again then, and nothing was lost.
func calls(d *disk.Disk, f func()) int {
	const most = 1000
	d.Arm(most, math.MaxInt)
	f()
	left := 0
	for !d.Down() {
		d.List()
		left++
	}
	d.Up()
	return most - (left - 1)
}

// The calls.

// answer is what is told of a Run: of an error nothing else.
type answer struct {
	name string
	size int
	gen  int64
	err  api.Errno
}

// run is Run, with a look that there is all of an answer or nothing but the error, and that the store is as it was.
func run(t *testing.T, d *disk.Disk, s *store.Store, gen int64) (answer, *wal.Log) {
	t.Helper()
	var was told
	if s != nil {
		was = toldBy(s)
	}
	l, next, err := Run(d, s, gen)
	if s != nil && !same(toldBy(s), was) {
		t.Fatalf("P15.1: Run of %d changed the store to %s, it was %s", gen, short(toldBy(s)), short(was))
	}
	if err != 0 {
		if l != nil || next != 0 {
			t.Fatalf("P15.1: Run of %d: %v, %d beside %d", gen, l, next, err)
		}
		return answer{err: err}, nil
	}
	if l == nil {
		t.Fatalf("P15.1: Run of %d: OK, and no log", gen)
	}
	return answer{l.Name(), l.Size(), next, 0}, l
}

// ran is Run that must go well.
func ran(t *testing.T, what string, d *disk.Disk, s *store.Store, gen int64) *wal.Log {
	t.Helper()
	got, l := run(t, d, s, gen)
	if want := (answer{logName(gen + 1), 0, gen + 1, 0}); got != want {
		t.Fatalf("%s: Run of %d = %+v, want %+v", what, gen, got, want)
	}
	return l
}

// refused is Run that must not.
func refused(t *testing.T, what string, d *disk.Disk, s *store.Store, gen int64, want api.Errno) {
	t.Helper()
	if got, _ := run(t, d, s, gen); got.err != want {
		t.Fatalf("%s: Run of %d = %+v, want the error %d", what, gen, got, want)
	}
}

// modelRun does the chapter's words to a disk of its own, call by call.
func modelRun(d *disk.Disk, s *store.Store, gen int64) answer {
	if d == nil || s == nil || gen < 0 || gen > lastGen {
		return answer{err: errArg}
	}
	names, err := d.List()
	if err != 0 {
		return answer{err: err}
	}
	remove := func(name string) func() api.Errno {
		return func() api.Errno {
			if !slices.Contains(names, name) {
				return 0
			}
			return d.Delete(name)
		}
	}
	for _, step := range []func() api.Errno{
		remove("snap.tmp"),
		remove(logName(gen + 1)),
		func() api.Errno { return d.Append("snap.tmp", image(gen+1, toldBy(s))) },
		func() api.Errno { return d.Sync("snap.tmp") },
		func() api.Errno { return d.Rename("snap.tmp", "snap") },
		remove(logName(gen)),
	} {
		if err := step(); err != 0 {
			return answer{err: err}
		}
	}
	if _, err := d.Read(logName(gen + 1)); err != errFile {
		return answer{err: err}
	}
	return answer{logName(gen + 1), 0, gen + 1, 0}
}

// check holds Run of these files, with something done to the disk ahead, against the model, and the disks too.
func check(t *testing.T, what string, files []file, s *store.Store, gen int64, ahead func(d *disk.Disk)) answer {
	t.Helper()
	d, twin := diskOf(t, files...), diskOf(t, files...)
	if ahead != nil {
		ahead(d)
		ahead(twin)
	}
	got, _ := run(t, d, s, gen)
	if want := modelRun(twin, s, gen); got != want {
		t.Fatalf("P15.1: %s: Run of %d = %+v, want %+v", what, gen, got, want)
	}
	if a, b := dissect(d), dissect(twin); a != b {
		t.Fatalf("P15.1: %s: behind Run of %d the disk is\n%s\nwant\n%s", what, gen, short(a), short(b))
	}
	return got
}

// opened is boot.Open that must tell these versions and lasts, stamps aside, and one of these generations.
func opened(t *testing.T, what string, d *disk.Disk, want told, gens ...int64) (*store.Store, *wal.Log, int64) {
	t.Helper()
	const now = 9
	s, l, gen, err := boot.Open(d, now)
	if err != 0 {
		t.Fatalf("%s: boot.Open: %d", what, err)
	}
	if !slices.Contains(gens, gen) {
		t.Fatalf("%s: boot.Open tells the generation %d, want of %d", what, gen, gens)
	}
	if got := toldBy(s); !same(got, want.at(now)) {
		t.Fatalf("%s: boot.Open tells %s, want %s", what, short(got), short(want.at(now)))
	}
	return s, l, gen
}

// logs appends records to a log, and does them to a store.
func logs(t *testing.T, what string, l *wal.Log, s *store.Store, records ...api.Record) {
	t.Helper()
	for _, r := range records {
		if err := l.Append(r); err != 0 {
			t.Fatalf("%s: Append to %q: %d", what, l.Name(), err)
		}
		do(t, s, 3, r)
	}
}

// Examples.

// exampleOne is the disk and the store behind the first example.
func exampleOne(t *testing.T) (*disk.Disk, *store.Store) {
	t.Helper()
	d, s := disk.New(), newStore(t, puts(65536, "a", "1"), commit(65536))
	l, gen, err := Run(d, s, 0)
	if err != 0 || gen != 1 || l.Name() != "log.1" || l.Size() != 0 {
		t.Fatalf("P15.1: Run = %v, %d, %d", l, gen, err)
	}
	listIs(t, "P15.1", d, "snap")
	want := []byte("ramp\x01" + "\x00\x00\x00\x00\x00\x00\x00\x01" +
		"\x00\x00\x00\x01" + "\x00\x00\x00\x01a" + "\x00\x00\x00\x00\x00\x01\x00\x00" +
		"\x00\x00\x00\x01" + "\x00\x00\x00\x01a" + "\x00\x00\x00\x00\x00\x01\x00\x00" + "\x00\x00\x00\x011" + "\x00\x00\x00\x01\x00\x00\x00\x01a")
	fileIs(t, "P15.1", d, "snap", be32(want, crc(want)))
	b, _ := d.Read("snap")
	if g, u, err := snap.Read(b, 0); g != 1 || err != 0 || !same(toldBy(u), toldBy(s)) {
		t.Fatalf("P15.1: the snapshot tells %d, %d", g, err)
	}
	if err := l.Append(commit(65536)); err != 0 || l.Size() != 17 {
		t.Fatalf("P15.3: Append: %d", err)
	}
	listIs(t, "P15.1", d, "log.1", "snap")
	return d, s
}

func TestExampleOne(t *testing.T) { exampleOne(t) }

func TestExampleTwo(t *testing.T) {
	d, s := exampleOne(t)
	d.Full(1)
	was := lookAt(d)
	refused(t, "P15.4", d, s, 1, 60)
	listIs(t, "P15.4", d, "log.1", "snap")
	if is := lookAt(d); is != was {
		t.Fatalf("P15.4: behind ErrNoSpace the disk is\n%s\nwant\n%s", is, was)
	}
	ran(t, "P15.1", d, s, 1)
	listIs(t, "P15.1", d, "snap")
	fileIs(t, "P15.1", d, "snap", image(2, toldBy(s)))
}

func TestExampleThree(t *testing.T) {
	d, s := exampleOne(t)
	old := image(1, toldBy(s))
	do(t, s, 4, more()...)
	d.Arm(3, 0)
	refused(t, "P15.1", d, s, 1, 62)
	d.Up()
	listIs(t, "P15.1", d, "log.1", "snap", "snap.tmp")
	fileIs(t, "P15.1", d, "snap.tmp", image(2, toldBy(s)))
	fileIs(t, "P15.1", d, "snap", old)
	opened(t, "P15.2", d, toldBy(newStore(t, puts(one, "a", "1"), commit(one))), 1)
	listIs(t, "P15.2", d, "log.1", "snap")
}

func TestExampleFour(t *testing.T) {
	d, s := exampleOne(t)
	refused(t, "P15.1: no disk", nil, s, 0, 1)
	refused(t, "P15.1: no store", d, nil, 0, 1)
	refused(t, "P15.1: below 0", d, s, -1, 1)
}

// Arguments.

func noGens() []int64 {
	return []int64{-1, -2, -maxTick, math.MinInt64, math.MinInt64 + 1, maxTick, maxTick + 1, 1 << 41, math.MaxInt64 - 1, math.MaxInt64}
}

func gens() []int64 {
	return []int64{0, 1, 2, 8, 9, 10, 98, 99, 1 << 31, 1 << 32, maxTick - 3, maxTick - 2, maxTick - 1}
}

// A wrong argument comes ahead of all that the disk would say, and it makes no call of it.
func TestArguments(t *testing.T) {
	s := newStore(t, ordinary()...)
	for _, gen := range append(noGens(), gens()...) {
		refused(t, "P15.1: no disk", nil, s, gen, errArg)
		refused(t, "P15.1: neither", nil, nil, gen, errArg)
	}
	type call struct {
		s   *store.Store
		gen int64
	}
	var wrong []call
	for _, gen := range noGens() {
		wrong = append(wrong, call{s, gen}, call{nil, gen})
	}
	for _, gen := range gens() {
		wrong = append(wrong, call{nil, gen})
	}
	for _, c := range wrong {
		for _, files := range [][]file{nil, litter(0), litter(c.gen)} {
			for what, ahead := range map[string]func(d *disk.Disk){
				"as it is": func(d *disk.Disk) {},
				"armed":    func(d *disk.Disk) { d.Arm(0, 3) },
				"down":     func(d *disk.Disk) { d.Crash(1) },
				"full":     func(d *disk.Disk) { d.Full(2) },
			} {
				d, twin := diskOf(t, files...), diskOf(t, files...)
				ahead(d)
				ahead(twin)
				refused(t, "P15.1: "+what, d, c.s, c.gen, errArg)
				if a, b := dissect(d), dissect(twin); a != b {
					t.Fatalf("P15.1: %s: behind ErrArg of %d the disk is\n%s\nwant\n%s", what, c.gen, short(a), short(b))
				}
			}
		}
	}
}

func TestNoCallBehindErrArg(t *testing.T) {
	d, s := diskOf(t, litter(3)...), newStore(t)
	if n := calls(d, func() {
		refused(t, "P15.1", d, nil, 3, errArg)
		refused(t, "P15.1", d, s, -1, errArg)
		refused(t, "P15.1", d, s, maxTick, errArg)
	}); n != 0 {
		t.Errorf("P15.1: behind ErrArg %d calls were made", n)
	}
}

func TestGenerations(t *testing.T) {
	s := newStore(t, ordinary()...)
	for _, gen := range gens() {
		what := fmt.Sprint("P15.1: generation ", gen)
		check(t, what, nil, s, gen, nil)
		check(t, what, litter(gen), s, gen, nil)
		d := diskOf(t, litter(gen)...)
		l := ran(t, what, d, s, gen)
		want := list("else", logName(gen-1), logName(gen+2), "snap")
		slices.Sort(want)
		listIs(t, what, d, want...)
		fileIs(t, what, d, "snap", image(gen+1, toldBy(s)))
		logs(t, what, l, copied(t, s), commit(one))
		fileIs(t, what, d, logName(gen+1), row(commit(one)))
		opened(t, what, d, toldBy(s), gen+1)
	}
}

// Which files go.

// TestFiles: each choice of files; what must be there then is said here once more, apart from the model.
func TestFiles(t *testing.T) {
	s := newStore(t, ordinary()...)
	for _, gen := range []int64{0, 4} {
		for i, files := range somes(litter(gen)) {
			what := fmt.Sprint("choice ", i, " of generation ", gen)
			check(t, what, files, s, gen, nil)
			d := diskOf(t, files...)
			l := ran(t, "P15.1: "+what, d, s, gen)
			want := list("snap")
			for _, f := range files {
				switch f.name {
				case "snap", "snap.tmp", logName(gen), logName(gen + 1):
				default:
					want = append(want, f.name)
					fileIs(t, "P15.1: "+what, d, f.name, slices.Concat(f.synced, f.tail))
				}
			}
			slices.Sort(want)
			listIs(t, "P15.1: "+what, d, want...)
			logs(t, "P15.3: "+what, l, copied(t, s), commit(one))
			crashed(d, 0)
			fileIs(t, "P15.1: "+what, d, "snap", image(gen+1, toldBy(s)))
			fileIs(t, "P15.3: "+what, d, logName(gen+1), row(commit(one)))
		}
	}
}

// Synced wholly or in part or not at all, with bytes or none: none of that counts.
func TestHowFilesLie(t *testing.T) {
	s := newStore(t, ordinary()...)
	b := image(5, toldBy(s))
	for _, name := range list("snap", "snap.tmp", "log.4", "log.5", "log.3", "else") {
		for _, f := range []file{{name, nil, nil}, {name, b, nil}, {name, nil, b}, {name, b[:30], b[30:]}, {name, []byte("junk"), nil}, {name, nil, []byte("junk")}} {
			for keep := range 4 {
				check(t, name, []file{f}, s, 4, func(d *disk.Disk) { d.Arm(keep+2, 10*keep) })
			}
			check(t, name, []file{f}, s, 4, nil)
		}
	}
}

// A snapshot that was on its way is not gone on with.
func TestTempIsLaidAnew(t *testing.T) {
	s := newStore(t, ordinary()...)
	whole := image(1, toldBy(s))
	for n := range len(whole) + 1 {
		for _, f := range []file{{"snap.tmp", whole[:n], nil}, {"snap.tmp", nil, whole[:n]}, {"snap.tmp", whole[:n/2], whole[n/2 : n]}} {
			d := diskOf(t, f)
			ran(t, "P15.1", d, s, 0)
			listIs(t, "P15.1", d, "snap")
			fileIs(t, "P15.1", d, "snap", whole)
		}
	}
}

// Names that are nearly those of the files that go.
func TestNamesLikeOurs(t *testing.T) {
	s := newStore(t, ordinary()...)
	for _, name := range list("log.07", "log.08", "log.+7", "log.-7", "log.-8", "log.7 ", " log.8", "log.8\x00", "log.70", "log.78", "log.80", "log.6", "log.9", "log.0", "log.",
		"log", "log8", "Log.7", "LOG.8", "log_7", "log.7.tmp", "log.8.tmp", "7", ".8", "snap ", " snap", "Snap", "sna", "snap\x00", "snap.7", "snap.8", "snap.", "snap.tm",
		"snap.tmp ", " snap.tmp", "snap.tmp\x00", "snap.TMP", "snap_tmp", "snap.temp", "tmp", ".tmp", "snap.tmp.tmp", "\xff", "\x00", strings.Repeat("x", 32)) {
		f := file{name, row(commit(one)), []byte("torn")}
		check(t, name, []file{f}, s, 7, nil)
		d := diskOf(t, f, file{"log.7", row(ordinary()...), nil}, file{"log.8", []byte("8"), nil}, file{"snap.tmp", nil, nil})
		ran(t, "P15.1: beside "+name, d, s, 7)
		want := list(name, "snap")
		slices.Sort(want)
		listIs(t, "P15.1: beside "+name, d, want...)
		fileIs(t, "P15.1: beside "+name, d, name, slices.Concat(f.synced, f.tail))
	}
}

// The generation that is given counts, not that of the snapshot which lies there.
func TestOtherGenerationsOnDisk(t *testing.T) {
	s := newStore(t, ordinary()...)
	for _, lies := range []int64{1, 3, 4, 5, 6, math.MaxInt64} {
		files := []file{{"snap", image(lies, told{}), nil}}
		for _, gen := range []int64{0, 3, 4, 5, 6, 7} {
			files = append(files, file{logName(gen), row(commit(two)), nil})
		}
		check(t, fmt.Sprint("of ", lies), files, s, 4, nil)
		d := diskOf(t, files...)
		ran(t, fmt.Sprint("P15.1: of ", lies), d, s, 4)
		listIs(t, fmt.Sprint("P15.1: of ", lies), d, "log.0", "log.3", "log.6", "log.7", "snap")
		opened(t, fmt.Sprint("P15.1: of ", lies), d, toldBy(s), 5)
	}
}

// crowd is a disk of n files: those given, and others.
func crowd(n int, files ...file) []file {
	for i := 0; len(files) < n; i++ {
		files = append(files, file{fmt.Sprint("other", i), []byte{byte(i)}, []byte("t")})
	}
	return files
}

func TestAllFiles(t *testing.T) {
	s := newStore(t, ordinary()...)
	temp, log, next, old := file{"snap.tmp", []byte("t"), nil}, file{"log.4", row(commit(one)), nil}, file{"log.5", []byte("n"), nil}, file{"snap", image(4, told{}), nil}
	for what, c := range map[string]struct {
		files []file
		want  api.Errno
	}{
		"one is left":                           {crowd(maxFiles - 1), 0},
		"one is left, with files of ours":       {crowd(maxFiles-1, log, old), 0},
		"none is left":                          {crowd(maxFiles), errLong},
		"none, but the log goes too late":       {crowd(maxFiles, log), errLong},
		"none, but the snapshot goes too late":  {crowd(maxFiles, old), errLong},
		"none, but both go too late":            {crowd(maxFiles, log, old), errLong},
		"none, and what was on its way goes":    {crowd(maxFiles, temp), 0},
		"none, and the next log goes":           {crowd(maxFiles, next), 0},
		"none, and both go, with files of ours": {crowd(maxFiles, temp, next, log, old), 0},
	} {
		if got := check(t, what, c.files, s, 4, nil); got.err != c.want {
			t.Errorf("P15.1: %s: %d, want %d", what, got.err, c.want)
		}
		// A disk with too many files says so ahead of having no room.
		full := c.want
		if full == 0 {
			full = errNoSpace
		}
		if got := check(t, what, c.files, s, 4, func(d *disk.Disk) { d.Full(1) }); got.err != full {
			t.Errorf("P15.1: %s, full: %d, want %d", what, got.err, full)
		}
		if c.want == errLong {
			d, twin := diskOf(t, c.files...), diskOf(t, c.files...)
			d.Full(1)
			twin.Full(1)
			refused(t, "P15.1: "+what, d, s, 4, errLong)
			if a, b := dissect(d), dissect(twin); a != b {
				t.Errorf("P15.1: %s: behind ErrLong the disk is\n%s\nwant\n%s", what, short(a), short(b))
			}
		}
	}
}

// Calls of the disk.

func TestCalls(t *testing.T) {
	s := newStore(t, ordinary()...)
	b := row(ordinary()...)
	old, log, temp, next, other := file{"snap", b, nil}, file{"log.4", b, []byte("torn")}, file{"snap.tmp", b, nil}, file{"log.5", b, []byte("torn")}, file{"log.3", b, nil}
	for _, c := range []struct {
		what  string
		files []file
		want  int
	}{
		{"a new disk: List, Append, Sync, Rename, Read", nil, 5},
		{"a snapshot", []file{old}, 5},
		{"a snapshot and a log: and Delete", []file{old, log}, 6},
		{"a log: and Delete", []file{log}, 6},
		{"one on its way: and Delete", []file{temp}, 6},
		{"the next log: and Delete", []file{next}, 6},
		{"both: and twice Delete", []file{old, temp, next}, 7},
		{"all: and three times Delete", []file{old, log, temp, next, other}, 8},
		{"another alone", []file{other}, 5},
	} {
		d := diskOf(t, c.files...)
		if n := calls(d, func() { ran(t, "P15.1: "+c.what, d, s, 4) }); n != c.want {
			t.Errorf("P15.1: %s: %d calls, want %d", c.what, n, c.want)
		}
	}
	// Refused, the first that is ends it.
	d := diskOf(t, old, log, temp, next)
	d.Full(1)
	if n := calls(d, func() { refused(t, "P15.1", d, s, 4, errNoSpace) }); n != 4 {
		t.Errorf("P15.1: without room: %d calls, want 4: List, Delete, Delete, Append", n)
	}
	d = diskOf(t, crowd(maxFiles)...)
	if n := calls(d, func() { refused(t, "P15.1", d, s, 4, errLong) }); n != 2 {
		t.Errorf("P15.1: with all files: %d calls, want 2: List, Append", n)
	}
	d.Crash(0)
	refused(t, "P15.1", d, s, 4, errDown)
}

// What is there when the power goes off at each call tells which calls these are, and in which order.
func TestCallsInOrder(t *testing.T) {
	s := newStore(t, ordinary()...)
	old, fresh := []byte("old"), image(5, toldBy(s))
	files := []file{{"snap", old, nil}, {"snap.tmp", []byte("temp"), nil}, {"log.4", row(ordinary()...), nil}, {"log.5", []byte("next"), nil}, {"z", nil, nil}}
	all := list("log.4", "log.5", "snap", "snap.tmp", "z")
	for n, c := range []struct {
		ahead string // the call that the power goes off at
		names []string
		snap  []byte
		temp  []byte
	}{
		{"List", all, old, []byte("temp")},
		{"Delete of snap.tmp", all, old, []byte("temp")},
		{"Delete of log.5", list("log.4", "log.5", "snap", "z"), old, nil},
		{"Append", list("log.4", "snap", "z"), old, nil},
		{"Sync", list("log.4", "snap", "snap.tmp", "z"), old, fresh[:7]},
		{"Rename", list("log.4", "snap", "snap.tmp", "z"), old, fresh},
		{"Delete of log.4", list("log.4", "snap", "z"), fresh, nil},
		{"Read", list("snap", "z"), fresh, nil},
		{"none", list("snap", "z"), fresh, nil},
	} {
		d := diskOf(t, files...)
		d.Arm(n, 7)
		got, _ := run(t, d, s, 4)
		if down := c.ahead != "none"; d.Down() != down || (got.err == errDown) != down || !down && got.err != 0 {
			t.Fatalf("P15.1: off at %s: %d", c.ahead, got.err)
		}
		d.Up()
		listIs(t, "P15.1: off at "+c.ahead, d, c.names...)
		fileIs(t, "P15.1: off at "+c.ahead, d, "snap", c.snap)
		if c.temp != nil {
			fileIs(t, "P15.1: off at "+c.ahead, d, "snap.tmp", c.temp)
		}
	}
}

func TestArmed(t *testing.T) {
	s := newStore(t, ordinary()...)
	for i, files := range somes(litter(4)) {
		whole := diskOf(t, files...)
		count := calls(whole, func() { ran(t, "P15.1", whole, s, 4) })
		for n := range count + 2 {
			for _, keep := range []int{-1, 0, 7, 100, math.MaxInt} {
				what := fmt.Sprint("choice ", i, " armed with ", n, ", ", keep)
				got := check(t, what, files, s, 4, func(d *disk.Disk) { d.Arm(n, keep) })
				if down := n < count; down != (got.err == errDown) || !down && got.err != 0 {
					t.Fatalf("P15.1: %s: %d", what, got.err)
				}
			}
		}
	}
}

func TestDown(t *testing.T) {
	for i, files := range somes(litter(4)) {
		got := check(t, fmt.Sprint("choice ", i, " down"), files, newStore(t), 4, func(d *disk.Disk) { d.Crash(2) })
		if got.err != errDown {
			t.Errorf("P15.1: with the power off: %d", got.err)
		}
	}
}

func TestFull(t *testing.T) {
	s := newStore(t, ordinary()...)
	for i, files := range somes(litter(4)) {
		for _, n := range []int{1, 2, 1000} {
			what := fmt.Sprint("choice ", i, ", full ", n)
			if got := check(t, what, files, s, 4, func(d *disk.Disk) { d.Full(n) }); got.err != errNoSpace {
				t.Fatalf("P15.1: %s: %d", what, got.err)
			}
			for at := range 6 {
				check(t, what, files, s, 4, func(d *disk.Disk) { d.Full(n); d.Arm(at, at) })
			}
		}
	}
	// One refusal goes with each Run, for a store without anything too.
	d := disk.New()
	d.Full(2)
	refused(t, "P15.1", d, newStore(t), 0, errNoSpace)
	refused(t, "P15.1", d, s, 0, errNoSpace)
	listIs(t, "P15.1", d)
	ran(t, "P15.1", d, s, 0)
	d.Full(-1)
	ran(t, "P15.1", d, s, 1)
}

// Stores.

func TestStores(t *testing.T) {
	for i, s := range stores(t) {
		what := fmt.Sprint("store ", i)
		for _, files := range [][]file{nil, litter(0), litter(6)} {
			check(t, what, files, s, 6, nil)
			check(t, what, files, s, 6, func(d *disk.Disk) { d.Full(1) })
			d := diskOf(t, files...)
			ran(t, "P15.1: "+what, d, s, 6)
			b, _ := d.Read("snap")
			gen, u, err := snap.Read(b, 5)
			if gen != 7 || err != 0 || !same(toldBy(u), toldBy(s).at(5)) {
				t.Errorf("P15.1: %s: the snapshot tells %d, %d, %s", what, gen, err, short(u))
			}
		}
	}
}

// What is done to the store behind Run changes nothing on the disk, and the store answers as one that no Run saw.
func TestStoreGoesOn(t *testing.T) {
	for i, s := range stores(t) {
		twin, d := copied(t, s), diskOf(t, litter(2)...)
		want := image(3, toldBy(s))
		ran(t, "P15.1", d, s, 2)
		was := lookAt(d)
		for _, u := range []*store.Store{s, twin} {
			do(t, u, 20, more()...)
			for _, k := range u.Kept() {
				u.Drop(k.Version.Key, k.Version.ID)
			}
		}
		if !same(toldBy(s), toldBy(twin)) {
			t.Errorf("P15.1: store %d: behind Run it tells %s, want %s", i, short(toldBy(s)), short(toldBy(twin)))
		}
		if is := lookAt(d); is != was {
			t.Errorf("P15.1: store %d: what was done to it changed the disk", i)
		}
		fileIs(t, "P15.1", d, "snap", want)
	}
}

// Disks know nothing of one another, and the same calls give the same.
func TestOneOutcome(t *testing.T) {
	s := newStore(t, ordinary()...)
	d, twin, other := diskOf(t, litter(4)...), diskOf(t, litter(4)...), diskOf(t, litter(4)...)
	l := ran(t, "P15.1", d, s, 4)
	m := ran(t, "P15.1", twin, copied(t, s), 4)
	for _, log := range []*wal.Log{l, m} {
		logs(t, "P15.1", log, copied(t, s), more()...)
	}
	if a, b := dissect(d), dissect(twin); a != b {
		t.Errorf("P15.1: the disks are\n%s\nand\n%s", short(a), short(b))
	}
	if a, b := dissect(other), dissect(diskOf(t, litter(4)...)); a != b {
		t.Errorf("P15.1: Run of one disk changed another")
	}
}

// Things of chance.

type chance struct{ *rand.Rand }

func newChance(seed int) chance { return chance{rand.New(rand.NewSource(int64(seed)))} }

func (c chance) keys() []string {
	var out []string
	for len(out) == 0 {
		for _, key := range list("", "a", "a\x00", "b", "c", "\xff") {
			if c.Intn(2) == 0 {
				out = append(out, key)
			}
		}
	}
	return out
}

func (c chance) id() api.ID {
	l := []api.ID{one, one + 1, one + 65535, two, two + 3, three, 1 << 32, 1 << 48, 1<<63 - 1, 1 << 63, lastID - 1, lastID}
	return l[c.Intn(len(l))]
}

func (c chance) bytes(n int) []byte {
	b := make([]byte, c.Intn(n))
	c.Read(b)
	return b
}

func (c chance) record() api.Record {
	if c.Intn(3) == 0 {
		return commit(c.id())
	}
	r := prepare(c.id(), c.keys())
	for len(r.Pairs) == 0 {
		for _, key := range r.Keys {
			if c.Intn(3) != 0 {
				r.Pairs = append(r.Pairs, pair(key, string(c.bytes(12))))
			}
		}
	}
	return r
}

func (c chance) records(n int) []api.Record {
	var out []api.Record
	for range c.Intn(n) {
		out = append(out, c.record())
	}
	return out
}

// drops lets some of what is old go.
func (c chance) drops(s *store.Store) {
	for _, k := range s.Kept() {
		if k.Stamp != -1 && c.Intn(2) == 0 {
			s.Drop(k.Version.Key, k.Version.ID)
		}
	}
}

func (c chance) store(t *testing.T) *store.Store {
	t.Helper()
	s := newStore(t, c.records(40)...)
	c.drops(s)
	do(t, s, 5, c.records(5)...)
	return s
}

func (c chance) gen() int64 {
	switch c.Intn(4) {
	case 0:
		return 0
	case 1:
		return c.Int63n(20)
	case 2:
		return lastGen - c.Int63n(3)
	}
	return c.Int63n(maxTick)
}

func (c chance) files(gen int64) []file {
	names := list("snap", "snap.tmp", logName(gen), logName(gen+1), logName(gen+2), logName(gen-1), "log.0", "log.1", "else", "\x00", "Snap", "log.", logName(gen/10))
	slices.Sort(names)
	var out []file
	for _, name := range slices.Compact(names) {
		if c.Intn(2) == 0 {
			out = append(out, file{name, append(row(c.records(3)...), c.bytes(5)...), c.bytes(9)})
		}
	}
	c.Shuffle(len(out), func(i, j int) { out[i], out[j] = out[j], out[i] })
	if c.Intn(4) == 0 {
		out = crowd(max(len(out), maxFiles-c.Intn(2)), out...)
	}
	return out
}

// TestAnyDisk: files and stores of chance, armed or not, full or not, against the model.
func TestAnyDisk(t *testing.T) {
	count := map[api.Errno]int{}
	for seed := range 5000 {
		c := newChance(seed)
		gen := c.gen()
		if c.Intn(20) == 0 {
			gen = noGens()[c.Intn(len(noGens()))]
		}
		n, keep, full := c.Intn(24)-8, c.Intn(400), c.Intn(6)-4
		got := check(t, fmt.Sprint("seed ", seed), c.files(gen), c.store(t), gen, func(d *disk.Disk) {
			d.Full(full)
			d.Arm(n, keep)
		})
		count[got.err]++
	}
	for _, err := range []api.Errno{0, errArg, errLong, errNoSpace, errDown} {
		if count[err] < 100 {
			t.Errorf("the test's disks are answered %v", count)
		}
	}
}

// Old or new.

// grown is a disk with the files of a generation, as boot, wal and Run laid them, with what was logged in each generation; and the store of it.
func grown(t *testing.T, gen int64, each ...[]api.Record) (*disk.Disk, *store.Store, *wal.Log) {
	t.Helper()
	d := disk.New()
	if gen > 0 {
		first := image(gen, told{})
		if d.Append("snap", first) != 0 || d.Sync("snap") != 0 {
			t.Fatal("the test's snapshot isn't laid")
		}
	}
	s, l, g, err := boot.Open(d, 2)
	if err != 0 || g != gen {
		t.Fatalf("boot.Open of the test's disk: %d, %d", g, err)
	}
	for i, records := range each {
		if i > 0 {
			l = ran(t, "P15.3", d, s, gen)
			gen++
		}
		logs(t, "P15.3", l, s, records...)
	}
	return d, s, l
}

// grounds is disks to begin with: how many generations they have behind them, and what was logged in each.
func grounds() []struct {
	gen  int64
	each [][]api.Record
} {
	return []struct {
		gen  int64
		each [][]api.Record
	}{
		{0, nil},
		{0, [][]api.Record{{puts(one, "a", "1")}}},
		{0, [][]api.Record{ordinary()}},
		{0, [][]api.Record{ordinary(), nil}},
		{0, [][]api.Record{ordinary(), more()}},
		{0, [][]api.Record{nil, nil, ordinary()}},
		{0, [][]api.Record{ordinary(), more(), {puts(lastID, "new", ""), commit(lastID)}}},
		{1, nil},
		{8, [][]api.Record{ordinary(), more()}},
		{lastGen - 1, [][]api.Record{ordinary(), more()}},
		{lastGen, [][]api.Record{ordinary()}},
	}
}

// keeps is how many bytes may stay at a crash: each number up to that of a snapshot, and beyond.
func keeps(s *store.Store) []int {
	out := []int{-1, math.MaxInt}
	for n := range len(image(1, toldBy(s))) + 2 {
		out = append(out, n)
	}
	return out
}

// renamed is the number of the call, from 0, that makes a snapshot the one that counts: behind List, the deletes, Append and Sync.
func renamed(t *testing.T, d *disk.Disk, gen int64) int {
	t.Helper()
	names, err := d.List()
	if err != 0 {
		t.Fatal(err)
	}
	n := 3
	for _, name := range list("snap.tmp", logName(gen+1)) {
		if slices.Contains(names, name) {
			n++
		}
	}
	return n
}

// leftovers is files that an earlier crash may have left beside those of a generation.
func leftovers(gen int64) [][]file {
	b := row(puts(lastID, "a", "left over"), commit(lastID))
	return [][]file{
		nil, {{"snap.tmp", image(gen+1, told{})[:9], nil}}, {{logName(gen + 1), b, nil}}, {{logName(gen + 1), nil, b}, {"snap.tmp", nil, image(gen+1, told{})}},
		{{logName(gen + 2), b, nil}, {logName(gen - 1), b, nil}, {"else", b, b}},
	}
}

func TestOldOrNew(t *testing.T) {
	for i, g := range grounds() {
		gen := g.gen + int64(max(len(g.each)-1, 0))
		for j, others := range leftovers(gen) {
			lay := func() (*disk.Disk, *store.Store) {
				d, s, _ := grown(t, g.gen, g.each...)
				for _, f := range others {
					f.on(t, d)
				}
				return d, s
			}
			whole, s := lay()
			want, rename := toldBy(s), renamed(t, whole, gen)
			count := calls(whole, func() { ran(t, "P15.1", whole, s, gen) })
			for n := range count + 1 {
				all := keeps(s)
				if n != rename-1 {
					all = []int{-1, 0, 9, math.MaxInt}
				}
				for _, keep := range all {
					what := fmt.Sprint("P15.2: disk ", i, ", ", j, " armed with ", n, ", ", keep)
					d, s := lay()
					d.Arm(n, keep)
					if got, _ := run(t, d, s, gen); (got.err == errDown) != (n < count) || n >= count && got.err != 0 {
						t.Fatalf("%s: %d", what, got.err)
					}
					crashed(d, keep)
					is := gen
					if n > rename {
						is++
					}
					opened(t, what, d, want, is)
					opened(t, what, d, want, is)
				}
			}
		}
	}
}

// The power goes off in Run, then in boot.Open behind it, then in the Run behind that.
func TestOffAgainAndAgain(t *testing.T) {
	const most = 7
	_, s, _ := grown(t, 0, ordinary(), more())
	want := toldBy(s)
	for x := range (most + 1) * (most + 1) * (most + 1) {
		at := [3]int{x % (most + 1), x / (most + 1) % (most + 1), x / (most + 1) / (most + 1)}
		for _, keep := range []int{0, 25, math.MaxInt} {
			what := fmt.Sprint("P15.2: armed with ", at, ", ", keep)
			d, s, _ := grown(t, 0, ordinary(), more())
			d.Arm(at[0], keep)
			run(t, d, s, 1)
			d.Up()
			d.Arm(at[1], keep)
			boot.Open(d, 3)
			d.Up()
			u, _, gen := opened(t, what, d, want, 1, 2)
			d.Arm(at[2], keep)
			run(t, d, u, gen)
			d.Up()
			v, l, gen := opened(t, what, d, want, gen, gen+1)
			logs(t, what, l, v, puts(one, "last", ""))
			ran(t, what, d, v, gen)
			crashed(d, 0)
			opened(t, what, d, toldBy(v), gen+1)
		}
	}
}

// Without boot.Open between, Run itself goes on from whatever a crash left, with the generation that counts.
func TestRunBehindRun(t *testing.T) {
	for n := range 8 {
		for _, keep := range []int{0, 10, math.MaxInt} {
			what := fmt.Sprint("P15.2: armed with ", n, ", ", keep)
			d, s, _ := grown(t, 0, ordinary(), more())
			d.Arm(n, keep)
			got, _ := run(t, d, s, 1)
			d.Up()
			gen := int64(1)
			if n > 3 {
				gen = 2
			}
			if got.err == 0 && got.gen != 2 {
				t.Fatalf("%s: %+v", what, got)
			}
			l := ran(t, what, d, s, gen)
			logs(t, what, l, s, puts(one, "last", ""), commit(one))
			crashed(d, 0)
			opened(t, what, d, toldBy(s), gen+1)
		}
	}
}

// It goes on.

func TestGoesOn(t *testing.T) {
	for _, first := range []int64{0, 1, 9, lastGen - 9} {
		d, s, l := grown(t, first)
		for turn := range 9 {
			gen := first + int64(turn)
			what := fmt.Sprint("P15.3: generation ", gen)
			for i, r := range append(ordinary(), more()...) {
				r.ID += api.ID(turn) << 16
				logs(t, what, l, s, puts(one+api.ID(turn), fmt.Sprint(turn), fmt.Sprint(i)))
				if r.ID >= one {
					logs(t, what, l, s, r)
				}
			}
			if turn%2 == 0 {
				crashed(d, turn)
				s, l, _ = opened(t, what, d, toldBy(s), gen)
			}
			if turn%3 == 1 {
				for _, k := range s.Kept() {
					s.Drop(k.Version.Key, k.Version.ID)
				}
			}
			l = ran(t, what, d, s, gen)
			listIs(t, what, d, "snap")
			fileIs(t, what, d, "snap", image(gen+1, toldBy(s)))
			if turn%3 == 0 {
				crashed(d, turn)
				s, l, _ = opened(t, what, d, toldBy(s), gen+1)
			}
		}
		opened(t, "P15.3", d, toldBy(s), first+9)
	}
}

// Each record is there from the OK of its Append on, whatever stays of the rest.
func TestEachRecordIsThere(t *testing.T) {
	for _, keep := range []int{0, 3, math.MaxInt} {
		d, s, l := grown(t, 0, ordinary(), nil)
		for i, r := range more() {
			what := fmt.Sprint("P15.3: record ", i)
			logs(t, what, l, s, r)
			crashed(d, keep)
			listIs(t, what, d, "log.1", "snap")
			s, l, _ = opened(t, what, d, toldBy(s), 1)
		}
		fileIs(t, "P15.3", d, "log.1", row(more()...))
		// One whose Append found the power off is there wholly or not at all.
		without := toldBy(s)
		torn := puts(three+9, "torn", "t")
		d.Arm(1, keep)
		if err := l.Append(torn); err != errDown {
			t.Fatalf("P15.3: Append: %d", err)
		}
		d.Up()
		if keep == math.MaxInt {
			do(t, s, 3, torn)
			without = toldBy(s)
		}
		u, _, _ := opened(t, "P15.3: torn", d, without, 1)
		ran(t, "P15.3: torn", d, u, 1)
		opened(t, "P15.3: torn", d, without, 2)
	}
}

// The log is the first thing of its file: what was left over there isn't ahead of what it logs.
func TestLogBeginsEmpty(t *testing.T) {
	for _, left := range [][]byte{nil, {0}, row(puts(lastID, "a", "left over"), commit(lastID)), row(commit(one))[:9], []byte("junk")} {
		for cut := range len(left) + 1 {
			d, s, _ := grown(t, 0, ordinary())
			file{"log.1", left[:cut], left[cut:]}.on(t, d)
			l := ran(t, "P15.3", d, s, 0)
			listIs(t, "P15.3", d, "snap")
			logs(t, "P15.3", l, s, more()...)
			if n := len(row(more()...)); l.Size() != n {
				t.Fatalf("P15.3: the log's size is %d, want %d", l.Size(), n)
			}
			fileIs(t, "P15.3", d, "log.1", row(more()...))
			crashed(d, 0)
			opened(t, "P15.3", d, toldBy(s), 1)
		}
	}
}

// Refused.

func TestRefused(t *testing.T) {
	for i, g := range grounds() {
		gen := g.gen + int64(max(len(g.each)-1, 0))
		for j, others := range leftovers(gen) {
			what := fmt.Sprint("P15.4: disk ", i, ", ", j)
			d, s, l := grown(t, g.gen, g.each...)
			twin, _, _ := grown(t, g.gen, g.each...)
			for _, f := range others {
				f.on(t, d)
				f.on(t, twin)
			}
			d.Full(2)
			refused(t, what, d, s, gen, errNoSpace)
			for _, name := range list("snap", logName(gen)) {
				b, err := d.Read(name)
				if c, bad := twin.Read(name); !bytes.Equal(b, c) || err != bad {
					t.Fatalf("%s: %q is %s, %d, want %s, %d", what, name, short(b), err, short(c), bad)
				}
			}
			refused(t, what, d, s, gen, errNoSpace)
			// The log goes on, and the next Run too.
			before := l.Size()
			logs(t, what, l, s, puts(two+5, "on", "x"), commit(two+5))
			if n := l.Size() - before; n != len(row(puts(two+5, "on", "x"), commit(two+5))) {
				t.Fatalf("%s: the log grew by %d bytes", what, n)
			}
			crashed(d, 0)
			u, _, _ := opened(t, what, d, toldBy(s), gen)
			ran(t, what, d, u, gen)
			opened(t, what, d, toldBy(s), gen+1)
		}
	}
}

// Behind a refused Run boot.Open tells just what it would have told ahead of it, stamps and the log's size too.
func TestRefusedTellsTheSame(t *testing.T) {
	for seed := range 300 {
		c := newChance(50000 + seed)
		first, each := c.Int63n(5), [][]api.Record{c.records(20), c.records(20), c.records(20)}[:1+c.Intn(3)]
		gen := first + int64(len(each)-1)
		d, s, _ := grown(t, first, each...)
		twin, _, _ := grown(t, first, each...)
		c.drops(s)
		d.Full(1 + c.Intn(2))
		refused(t, "P15.4", d, s, gen, errNoSpace)
		keep := c.Intn(40)
		crashed(d, keep)
		crashed(twin, keep)
		a, l, g, err := boot.Open(d, 30)
		b, m, h, bad := boot.Open(twin, 30)
		if err != 0 || bad != 0 || g != h || g != gen || l.Size() != m.Size() || l.Name() != m.Name() || !same(toldBy(a), toldBy(b)) {
			t.Fatalf("P15.4: seed %d: boot.Open = %d, %d, %s, want %d, %s", seed, err, g, short(toldBy(a)), h, short(toldBy(b)))
		}
		if a, b := lookAt(d), lookAt(twin); a != b {
			t.Fatalf("P15.4: seed %d: the disk is\n%s\nwant\n%s", seed, short(a), short(b))
		}
	}
}

// Lives.

// life is a partition's disk over many Runs and Opens: what boot.Open must tell is known at each moment.
type life struct {
	c    chance
	d    *disk.Disk
	s    *store.Store // what the partition has
	l    *wal.Log
	gen  int64
	base *store.Store // what the disk has: it differs from s in what was dropped since
}

func (x *life) open(t *testing.T, what string, gen int64) {
	t.Helper()
	x.s, x.l, x.gen = opened(t, what, x.d, toldBy(x.base), gen)
}

func (x *life) append(t *testing.T, what string) {
	t.Helper()
	for range x.c.Intn(6) {
		r := x.c.record()
		x.d.Full(x.c.Intn(8) / 7)
		err := x.l.Append(r)
		x.d.Full(0)
		if err == errNoSpace {
			continue
		}
		if err != 0 {
			t.Fatalf("%s: Append: %d", what, err)
		}
		do(t, x.s, 3, r)
		do(t, x.base, 3, r)
	}
}

func (x *life) run(t *testing.T, what string) {
	t.Helper()
	if x.c.Intn(3) == 0 {
		x.c.drops(x.s)
	}
	rename := renamed(t, x.d, x.gen)
	full := x.c.Intn(6) / 5
	x.d.Full(full)
	n := x.c.Intn(20) - 5
	x.d.Arm(n, x.c.Intn(300))
	got, l := run(t, x.d, x.s, x.gen)
	x.d.Full(0)
	if got.err == 0 || got.err == errDown && n > rename {
		x.base = copied(t, x.s)
		x.gen++
	}
	switch got.err {
	case 0:
		x.l = l
		x.d.Arm(-1, 0)
		if got.gen != x.gen {
			t.Fatalf("%s: Run tells the generation %d, want %d", what, got.gen, x.gen)
		}
	case errNoSpace:
		x.d.Arm(-1, 0)
		if full == 0 {
			t.Fatalf("%s: Run: %d", what, got.err)
		}
	case errDown:
		x.d.Up()
		x.open(t, what, x.gen)
	default:
		t.Fatalf("%s: Run: %d", what, got.err)
	}
}

func TestLives(t *testing.T) {
	for seed := range 400 {
		c := newChance(300000 + seed)
		x := &life{c: c, d: disk.New(), base: store.New()}
		x.open(t, "P15.3", 0)
		for turn := range 25 {
			what := fmt.Sprint("P15.3: seed ", seed, ", turn ", turn)
			x.append(t, what)
			if c.Intn(2) == 0 {
				x.run(t, what)
			}
			if c.Intn(4) == 0 {
				x.d.Append(list("else", "snap.tmp", "log.-1", "log.99999", logName(x.gen+1))[c.Intn(5)], row(c.record())[:c.Intn(17)])
			}
			if c.Intn(4) == 0 {
				crashed(x.d, c.Intn(30))
				x.open(t, what, x.gen)
			}
		}
		crashed(x.d, 0)
		x.open(t, fmt.Sprint("P15.3: seed ", seed), x.gen)
		if x.gen == 0 {
			t.Errorf("the test's life of seed %d has one generation alone", seed)
		}
	}
}

// Memory and great stores.

func inUse() int64 {
	runtime.GC()
	runtime.GC()
	var m runtime.MemStats
	runtime.ReadMemStats(&m)
	return int64(m.HeapAlloc)
}

// Nothing of the snapshot's bytes stays with the log, and no store with the disk.
func TestNothingIsKept(t *testing.T) {
	before := inUse()
	d, s := disk.New(), store.New()
	for i := range 400 {
		do(t, s, 1, puts(one+api.ID(i), "a", strings.Repeat("v", 65535)))
	}
	l := ran(t, "P15.1", d, s, 0)
	if n, _ := d.Size("snap"); n < 25<<20 {
		t.Fatalf("the test's snapshot has %d bytes", n)
	}
	s = nil
	if err := d.Delete("snap"); err != 0 {
		t.Fatal(err)
	}
	if grown := inUse() - before; grown > 4<<20 {
		t.Errorf("P15.1: %d bytes are kept behind Run", grown)
	}
	runtime.KeepAlive(d)
	runtime.KeepAlive(l)
}

func TestGreatStore(t *testing.T) {
	s := store.New()
	var records []api.Record
	for i := range 20000 {
		id := one + api.ID(i)
		records = append(records, prepare(id, list(fmt.Sprint(i), "a", "b"), pair(fmt.Sprint(i), "1"), pair("a", "2")))
	}
	do(t, s, 1, records...)
	for i := range 300 {
		do(t, s, 2, commit(one+api.ID(19700+i)))
	}
	d := diskOf(t, litter(76)...)
	l := ran(t, "P15.1: a great store", d, s, 76)
	fileIs(t, "P15.1: a great store", d, "snap", image(77, toldBy(s)))
	logs(t, "P15.3: a great store", l, s, more()...)
	crashed(d, 0)
	u, _, _ := opened(t, "P15.3: a great store", d, toldBy(s), 77)
	ran(t, "P15.3: a great store", d, u, 77)
	opened(t, "P15.3: a great store", d, toldBy(s), 78)
}
