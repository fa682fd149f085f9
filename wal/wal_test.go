package wal

import (
	"bytes"
	"encoding/binary"
	"fmt"
	"hash/crc32"
	"math"
	"math/rand"
	"runtime"
	"slices"
	"strings"
	"testing"

	"rampart/api"
	"rampart/disk"
	"rampart/record"
)

// The chapter's numbers, not api's.
const (
	kPrepare = 1
	kCommit  = 2
	longest  = 1048576 // bytes of a payload

	errArg     = api.Errno(1)
	errLong    = api.Errno(3)
	errNoSpace = api.Errno(60)
	errFile    = api.Errno(61)
	errDown    = api.Errno(62)
)

const logName = "log.0"

// Records to begin with.

func commit(id api.ID) api.Record { return api.Record{Kind: kCommit, ID: id} }

func pair(key, value string) api.Pair { return api.Pair{Key: key, Value: value} }

func prepare(id api.ID, keys []string, pairs ...api.Pair) api.Record {
	return api.Record{Kind: kPrepare, ID: id, Pairs: pairs, Keys: keys}
}

func list(keys ...string) []string { return keys }

// ab is a short prepare.
func ab(id api.ID) api.Record { return prepare(id, list("a", "b"), pair("a", "1")) }

// ordinary is records of both kinds, one of them twice.
func ordinary() []api.Record {
	return []api.Record{
		ab(65536), commit(65536), commit(1<<64 - 1), prepare(65538, list(""), pair("", "")),
		prepare(0x0102030405060708, list("", "a", "bb", "c\x00"), pair("", "x"), pair("bb", ""), pair("c\x00", "\xff\x00")),
		commit(65536), prepare(77777, list("k", "l"), pair("k", strings.Repeat("v", 300)), pair("l", "w")),
	}
}

// unlawful is records that may not be.
func unlawful() []api.Record {
	one := pair("a", "1")
	return []api.Record{
		{}, {Kind: 0, ID: 65536}, {Kind: 3, ID: 65536}, {Kind: 9}, {Kind: -1, ID: 65536}, {Kind: kCommit + 256, ID: 65536},
		commit(0), commit(65535), {Kind: kCommit, ID: 65536, Keys: list("a")}, {Kind: kCommit, ID: 65536, Pairs: []api.Pair{one}},
		prepare(65535, list("a"), one), prepare(65536, list("a")), prepare(65536, nil, one), prepare(65536, list("b", "a"), one),
		prepare(65536, list("a", "a"), one), prepare(65536, list("b"), one), prepare(65536, list("a"), one, one),
		prepare(65536, list(strings.Repeat("k", 65536), "l"), pair("l", "")), prepare(65536, list("a"), pair("a", strings.Repeat("v", 65536))),
	}
}

// ofSize is a prepare whose payload has size bytes, more than 2^19 of them.
func ofSize(t *testing.T, size int) api.Record {
	t.Helper()
	r := prepare(65536, nil)
	left := size - 1 - 8 - 4 - 4
	for i := range 24 {
		k := fmt.Sprintf("%04d", i)
		n := min(65535, left-20)
		r.Keys = append(r.Keys, k)
		r.Pairs = append(r.Pairs, pair(k, strings.Repeat("v", n)))
		left -= 20 + n
		if left < 20 {
			break
		}
	}
	if left != 0 {
		t.Fatalf("the test's payload of %d bytes lacks %d", size, left)
	}
	return r
}

// row is the bytes of records, one behind the other, by layer 9.
func row(t *testing.T, l ...api.Record) []byte {
	t.Helper()
	var b []byte
	for _, r := range l {
		one, err := record.Build(r)
		if err != 0 {
			t.Fatalf("the test's record %s: %d", short(r), err)
		}
		b = append(b, one...)
	}
	return b
}

// same tells whether two records are equal field by field; nil and empty lists are the same.
func same(a, b api.Record) bool {
	return a.Kind == b.Kind && a.ID == b.ID && slices.Equal(a.Pairs, b.Pairs) && slices.Equal(a.Keys, b.Keys)
}

func sameAll(a, b []api.Record) bool { return slices.EqualFunc(a, b, same) }

// short tells a thing, but not all of a long one.
func short(x any) string {
	s := fmt.Sprintf("%+v", x)
	if b, ok := x.([]byte); ok {
		s = fmt.Sprintf("[% x]", b)
	}
	if len(s) > 400 {
		return s[:300] + " and on, " + fmt.Sprint(len(s)) + " signs in all"
	}
	return s
}

// Memory: lists with room behind them, in which marks stand, and lists written over.

const spare = 3

func with[T any](l []T, mark T) []T {
	out := append(make([]T, 0, len(l)+spare), l...)
	for range spare {
		out = append(out, mark)
	}
	return out[:len(l)]
}

func holds[T comparable](l, was []T, mark T) bool {
	for _, x := range l[len(l) : len(l)+spare] {
		if x != mark {
			return false
		}
	}
	return slices.Equal(l, was)
}

func fill[T any](l []T, x T) {
	l = l[:cap(l)]
	for i := range l {
		l[i] = x
	}
}

func spoil(l ...api.Record) {
	for _, r := range l {
		fill(r.Pairs, pair("!", "!"))
		fill(r.Keys, "!")
	}
}

// copied is records in memory of their own.
func copied(l []api.Record) []api.Record {
	var out []api.Record
	for _, r := range l {
		r.Pairs, r.Keys = slices.Clone(r.Pairs), slices.Clone(r.Keys)
		out = append(out, r)
	}
	return out
}

// The calls, each with what it is handed and told spoilt at once, and with a look at Name and Size.

func open(t *testing.T, d *disk.Disk, name string) (*Log, []api.Record, api.Errno) {
	t.Helper()
	l, told, err := Open(d, name)
	if err != 0 {
		if l != nil || len(told) != 0 {
			t.Fatalf("P10.1: Open(%q): %d, and yet %v, %d records", name, err, l, len(told))
		}
		return nil, nil, err
	}
	if l == nil {
		t.Fatalf("P10.1: Open(%q): OK, and no log", name)
	}
	out := copied(told)
	spoil(told...)
	fill(told, api.Record{Kind: 77})
	if want := len(row(t, out...)); l.Name() != name || l.Size() != want {
		t.Fatalf("P10.3: Open(%q): Name %q, Size %d, want %d", name, l.Name(), l.Size(), want)
	}
	return l, out, 0
}

func appendTo(t *testing.T, l *Log, r api.Record) api.Errno {
	t.Helper()
	const mark = "\xA5mark"
	markPair := pair(mark, mark)
	in := r
	in.Pairs, in.Keys = with(r.Pairs, markPair), with(r.Keys, mark)
	name, want := l.Name(), l.Size()
	err := l.Append(in)
	if !holds(in.Pairs, r.Pairs, markPair) || !holds(in.Keys, r.Keys, mark) {
		t.Fatalf("P10.5: Append(%s) changed what was handed in", short(r))
	}
	spoil(in)
	if err == 0 {
		want += len(row(t, r))
	}
	if l.Name() != name || l.Size() != want {
		t.Fatalf("P10.3: behind Append(%s), %d: Name %q, Size %d, want %q, %d", short(r), err, l.Name(), l.Size(), name, want)
	}
	return err
}

// opened is the log of a file that must tell just these records, and hold just their bytes then.
func opened(t *testing.T, d *disk.Disk, name string, want ...api.Record) *Log {
	t.Helper()
	l, told, err := open(t, d, name)
	if err != 0 || !sameAll(told, want) {
		t.Fatalf("P10.1: Open(%q): %d, %s, want %s", name, err, short(told), short(want))
	}
	if b, err := d.Read(name); err == 0 {
		fileIs(t, d, name, row(t, want...))
	} else if len(b) != 0 || err != errFile || len(want) != 0 {
		t.Fatalf("P10.1: behind Open(%q) of %d records: Read: %d", name, len(want), err)
	}
	return l
}

func appended(t *testing.T, l *Log, want api.Errno, records ...api.Record) {
	t.Helper()
	for _, r := range records {
		if err := appendTo(t, l, r); err != want {
			t.Fatalf("P10.1: Append(%s): %d, want %d", short(r), err, want)
		}
	}
}

func fileIs(t *testing.T, d *disk.Disk, name string, want []byte) {
	t.Helper()
	if b, err := d.Read(name); err != 0 || !bytes.Equal(b, want) {
		t.Fatalf("P10.1: the file %q is %s, %d, want %s", name, short(b), err, short(want))
	}
}

func listIs(t *testing.T, d *disk.Disk, want ...string) {
	t.Helper()
	if l, err := d.List(); err != 0 || !slices.Equal(l, want) {
		t.Fatalf("P10.1: the disk has %q, %d, want %q", l, err, want)
	}
}

// laid is a disk with one file, synced.
func laid(t *testing.T, name string, b []byte) *disk.Disk {
	t.Helper()
	d := disk.New()
	put(t, d, name, b)
	if err := d.Sync(name); err != 0 {
		t.Fatal(err)
	}
	return d
}

// put lays bytes at a file's end, not synced.
func put(t *testing.T, d *disk.Disk, name string, b []byte) {
	t.Helper()
	if err := d.Append(name, b); err != 0 {
		t.Fatal(err)
	}
}

func crashed(d *disk.Disk, keep int) {
	d.Crash(keep)
	d.Up()
}

// calls is how many counted calls of a disk f makes; the power is on again then, and nothing was lost.
func calls(t *testing.T, d *disk.Disk, f func()) int {
	t.Helper()
	const most = 1000
	d.Arm(most, math.MaxInt)
	f()
	left := 0
	for !d.Down() {
		d.List()
		left++
	}
	d.Up()
	return most - (left - 1)
}

// TestExamples: the chapter's four, on one disk; bytes worked out apart from layer 9.
func TestExamples(t *testing.T) {
	one := []byte{0, 0, 0, 9, 0, 0, 0, 0, 2, 0, 0, 0, 0, 0, 1, 0, 0}
	binary.BigEndian.PutUint32(one[4:], crc32.ChecksumIEEE(one[8:]))
	d := disk.New()
	exampleNew(t, d, one)
	l := exampleTorn(t, d, one)
	exampleRefused(t, d, l, one)
	examplePower(t, d)
	if l, told, err := Open(nil, "x"); l != nil || len(told) != 0 || err != 1 {
		t.Fatalf("P10.1: example 4: Open(nil): %v, %d records, %d", l, len(told), err)
	}
	if err := l.Append(api.Record{}); err != 1 {
		t.Fatalf("P10.1: example 4: Append of no record: %d", err)
	}
}

func exampleNew(t *testing.T, d *disk.Disk, one []byte) {
	t.Helper()
	l, told, err := Open(d, "log.0")
	if err != 0 || l == nil || len(told) != 0 || l.Size() != 0 || l.Name() != "log.0" {
		t.Fatalf("P10.1: example 1: Open: %v, %s, %d", l, short(told), err)
	}
	listIs(t, d)
	if err := l.Append(api.Record{Kind: 2, ID: 65536}); err != 0 || l.Size() != 17 {
		t.Fatalf("P10.1: example 1: Append: %d, Size %d", err, l.Size())
	}
	fileIs(t, d, "log.0", one)
	crashed(d, 0)
	fileIs(t, d, "log.0", one)
}

func exampleTorn(t *testing.T, d *disk.Disk, one []byte) *Log {
	t.Helper()
	put(t, d, "log.0", one[:5])
	d.Crash(3)
	if l, told, err := Open(d, "log.0"); l != nil || len(told) != 0 || err != 62 {
		t.Fatalf("P10.1: example 4: Open with the power off: %v, %d records, %d", l, len(told), err)
	}
	d.Up()
	fileIs(t, d, "log.0", append(slices.Clone(one), 0, 0, 0))
	l, told, err := Open(d, "log.0")
	if err != 0 || len(told) != 1 || !same(told[0], api.Record{Kind: 2, ID: 65536}) || l.Size() != 17 {
		t.Fatalf("P10.4: example 2: Open: %s, %d", short(told), err)
	}
	if n, err := d.Size("log.0"); n != 17 || err != 0 {
		t.Fatalf("P10.4: example 2: the file has %d bytes, %d", n, err)
	}
	return l
}

func exampleRefused(t *testing.T, d *disk.Disk, l *Log, one []byte) {
	t.Helper()
	d.Full(1)
	if err := l.Append(commit(65537)); err != 60 || l.Size() != 17 {
		t.Fatalf("P10.1: example 3: Append: %d, Size %d", err, l.Size())
	}
	fileIs(t, d, "log.0", one)
	if err := l.Append(commit(65537)); err != 0 || l.Size() != 34 {
		t.Fatalf("P10.1: example 3: Append again: %d, Size %d", err, l.Size())
	}
}

func examplePower(t *testing.T, d *disk.Disk) {
	t.Helper()
	want := []api.Record{commit(65536), commit(65537)}
	for i, c := range []struct {
		n, keep int
		stays   bool
	}{{1, 100, true}, {1, 4, false}, {0, 100, false}} {
		l := opened(t, d, "log.0", want...)
		d.Arm(c.n, c.keep)
		r := commit(api.ID(65538 + i))
		if err := l.Append(r); err != 62 || !d.Down() {
			t.Fatalf("P10.1: example 3: armed with %d: Append: %d", c.n, err)
		}
		d.Up()
		if c.stays {
			want = append(want, r)
		}
	}
	opened(t, d, "log.0", want...)
}

// TestOrdinary: a log of both kinds of records grows; the file, its Size and what is told go along with it.
func TestOrdinary(t *testing.T) {
	d := disk.New()
	l := opened(t, d, logName)
	all := ordinary()
	for i := range all {
		appended(t, l, 0, all[i])
		want := row(t, all[:i+1]...)
		if l.Size() != len(want) {
			t.Fatalf("P10.3: Size %d behind %d records, want %d", l.Size(), i+1, len(want))
		}
		fileIs(t, d, logName, want)
		crashed(d, i%3)
		fileIs(t, d, logName, want)
		l = opened(t, d, logName, all[:i+1]...)
	}
	listIs(t, d, logName)
	for range 3 {
		l = opened(t, d, logName, all...)
	}
	appended(t, l, 0, all...)
	opened(t, d, logName, slices.Concat(all, all)...)
}

// noRecords is bytes that begin with no record.
func noRecords(t *testing.T) [][]byte {
	t.Helper()
	whole := row(t, ab(65536))
	changed := func(at int) []byte {
		b := slices.Clone(whole)
		b[at] ^= 1
		return b
	}
	sealed := func(payload string) []byte {
		b := binary.BigEndian.AppendUint32(nil, uint32(len(payload)))
		b = binary.BigEndian.AppendUint32(b, crc32.ChecksumIEEE([]byte(payload)))
		return append(b, payload...)
	}
	return [][]byte{
		{0}, {0xff}, make([]byte, 7), make([]byte, 8), make([]byte, 100), []byte("no record at all, but some text"), bytes.Repeat([]byte{0xff}, 40),
		{0, 0x10, 0, 1, 0, 0, 0, 0, 1}, {0, 0x10, 0, 0, 0, 0, 0, 0, 1}, whole[1:], whole[:len(whole)-1],
		changed(3), changed(4), changed(8), changed(20), changed(len(whole) - 1),
		sealed(""), sealed("\x03\x00\x00\x00\x00\x00\x01\x00\x00"), sealed("\x02\x00\x00\x00\x00\x00\x00\xff\xff"), sealed("\x02\x00\x00\x00\x00\x00\x01\x00\x00more"),
	}
}

// TestOpenOfNoFile: nothing is made, and just one call of the disk.
func TestOpenOfNoFile(t *testing.T) {
	for _, files := range []int{0, 1, 15, 16} {
		d := disk.New()
		var names []string
		for i := range files {
			names = append(names, fmt.Sprintf("f%02d", i))
			put(t, d, names[i], []byte("x"))
		}
		// A name that the disk would refuse is one that is no file.
		for _, name := range []string{logName, "", "g", strings.Repeat("n", 32), strings.Repeat("n", 33), strings.Repeat("n", 1000), "\x00\xff"} {
			var l *Log
			if n := calls(t, d, func() { l = must(open(t, d, name)) }); n != 1 {
				t.Errorf("P10.1: Open(%q) of no file: %d calls of the disk", name, n)
			}
			listIs(t, d, names...)
			want := api.OK
			if len(name) < 1 || len(name) > 32 {
				want = errArg
			} else if files == 16 {
				want = errLong
			}
			appended(t, l, want, ab(65536))
			if want != 0 {
				listIs(t, d, names...)
				appended(t, l, want, ab(65536))
				continue
			}
			fileIs(t, d, name, row(t, ab(65536)))
			if err := d.Delete(name); err != 0 {
				t.Fatal(err)
			}
		}
	}
}

// must is the log of an Open that goes well; appendTo finds out if there is none.
func must(l *Log, _ []api.Record, _ api.Errno) *Log { return l }

// TestOpenOfNoDisk: ahead of all else.
func TestOpenOfNoDisk(t *testing.T) {
	for _, name := range []string{"", "x", logName, strings.Repeat("n", 33)} {
		if _, _, err := open(t, nil, name); err != errArg {
			t.Errorf("P10.1: Open(nil, %q): %d", name, err)
		}
	}
}

// TestOpenOfFiles: of whole records, with bytes behind them that are none, of no records at all; synced or not.
func TestOpenOfFiles(t *testing.T) {
	all := ordinary()
	rows := [][]api.Record{nil, all[:1], all[1:2], all[:3], all}
	for _, l := range rows {
		for _, behind := range append(noRecords(t), nil) {
			for _, synced := range []bool{true, false} {
				checkOpen(t, l, behind, synced)
			}
		}
	}
}

// checkOpen opens a file that holds the records whole and what is behind them, with an empty file and another beside it.
func checkOpen(t *testing.T, whole []api.Record, behind []byte, synced bool) {
	t.Helper()
	want := row(t, whole...)
	full := slices.Concat(want, behind)
	cuts := 0
	if len(behind) > 0 {
		cuts = 1
	}
	fresh := func() *disk.Disk {
		d := laid(t, logName, nil)
		put(t, d, logName, full)
		put(t, d, "other", full)
		if synced {
			d.Sync(logName)
		}
		return d
	}
	d := fresh()
	if n := calls(t, d, func() { tells(t, d, whole) }); n != 1+cuts {
		t.Fatalf("P10.1: Open of %d records and [% x]: %d calls of the disk", len(whole), behind, n)
	}
	fileIs(t, d, logName, want)
	fileIs(t, d, "other", full)
	listIs(t, d, logName, "other")
	// Nothing was synced by it: what wasn't goes with the next crash.
	d = fresh()
	tells(t, d, whole)
	crashed(d, 0)
	stays := want
	if !synced {
		stays = nil
	}
	fileIs(t, d, logName, stays)
	// The power goes off ahead of each call; the next Open tells the same.
	for n := range 1 + cuts {
		d = fresh()
		d.Arm(n, math.MaxInt)
		if _, _, err := open(t, d, logName); err != errDown || !d.Down() {
			t.Fatalf("P10.1: Open, the power going off ahead of the call %d: %d", n, err)
		}
		if _, _, err := open(t, d, logName); err != errDown {
			t.Fatalf("P10.1: Open with the power off: %d", err)
		}
		d.Up()
		fileIs(t, d, logName, full)
		opened(t, d, logName, whole...)
	}
	// A disk that has no room doesn't matter, and Open takes none of its refusals.
	d = fresh()
	d.Full(1)
	l := opened(t, d, logName, whole...)
	appended(t, l, errNoSpace, commit(99999))
	appended(t, l, 0, commit(99999))
	opened(t, d, logName, append(slices.Clone(whole), commit(99999))...)
}

// tells opens and looks at the records alone, without a call of the disk of its own.
func tells(t *testing.T, d *disk.Disk, want []api.Record) {
	t.Helper()
	if _, told, err := open(t, d, logName); err != 0 || !sameAll(told, want) {
		t.Fatalf("P10.1: Open: %d, %s, want %s", err, short(told), short(want))
	}
}

// TestPowerOff: Open of any name and file answers just that.
func TestPowerOff(t *testing.T) {
	d := laid(t, logName, row(t, ab(65536)))
	d.Crash(0)
	for _, name := range []string{logName, "none", "", strings.Repeat("n", 33)} {
		if _, _, err := open(t, d, name); err != errDown {
			t.Errorf("P10.1: Open(%q) with the power off: %d", name, err)
		}
	}
	d.Up()
	opened(t, d, logName, ab(65536))
}

// TestAppendOfWrongRecords: ahead of the disk, which isn't called.
func TestAppendOfWrongRecords(t *testing.T) {
	tooLong := ofSize(t, longest+1)
	if !record.May(tooLong) {
		t.Fatal("the test's long record may not be")
	}
	type wrong struct {
		r    api.Record
		want api.Errno
	}
	cases := []wrong{{tooLong, errLong}, {ofSize(t, longest+70), errLong}}
	for _, r := range unlawful() {
		cases = append(cases, wrong{r, errArg})
	}
	r := copied([]api.Record{tooLong})[0]
	r.ID = 65535
	cases = append(cases, wrong{r, errArg})
	for _, c := range cases {
		for _, name := range []string{logName, "", strings.Repeat("n", 33)} {
			d := laid(t, "other", []byte("x"))
			l := opened(t, d, name)
			d.Full(1)
			if n := calls(t, d, func() { appended(t, l, c.want, c.r) }); n != 0 {
				t.Fatalf("P10.1: Append(%s): %d calls of the disk", short(c.r), n)
			}
			listIs(t, d, "other")
			// Armed with nothing left: the next call of the disk would find the power off.
			l = opened(t, d, name)
			d.Arm(0, 0)
			appended(t, l, c.want, c.r)
			if d.Down() {
				t.Fatalf("P10.1: Append(%s) called the disk", short(c.r))
			}
			d.Arm(-1, 0)
			if err := d.Append("other", []byte("y")); err != errNoSpace {
				t.Fatalf("P10.1: Append(%s) took a refusal of the disk: %d", short(c.r), err)
			}
		}
	}
}

// TestWrongBetween: wrong records between right ones leave no trace.
func TestWrongBetween(t *testing.T) {
	d := disk.New()
	l := opened(t, d, logName)
	for _, r := range ordinary() {
		appended(t, l, errArg, unlawful()...)
		appended(t, l, 0, r)
	}
	appended(t, l, errLong, ofSize(t, longest+1))
	fileIs(t, d, logName, row(t, ordinary()...))
	opened(t, d, logName, ordinary()...)
}

// TestLongest: payloads of MaxFrame bytes and about it.
func TestLongest(t *testing.T) {
	d := disk.New()
	l := opened(t, d, logName)
	var all []api.Record
	for _, size := range []int{longest - 1, longest, longest + 1, longest + 2, longest} {
		r := ofSize(t, size)
		if size > longest {
			appended(t, l, errLong, r)
			continue
		}
		all = append(all, r)
		appended(t, l, 0, r)
		fileIs(t, d, logName, row(t, all...))
	}
	if want := 3*(8+longest) - 1; l.Size() != want {
		t.Errorf("P10.3: Size %d, want %d", l.Size(), want)
	}
	crashed(d, 0)
	l = opened(t, d, logName, all...)
	for _, keep := range []int{0, 7, 8, longest, longest + 7, longest + 8} {
		d.Arm(1, keep)
		appended(t, l, errDown, ofSize(t, longest))
		d.Up()
		if keep == longest+8 {
			all = append(all, ofSize(t, longest))
		}
		l = opened(t, d, logName, all...)
	}
}

// TestNoSpace: refused, nothing has changed, and the next one is OK.
func TestNoSpace(t *testing.T) {
	for _, refusals := range []int{1, 2, 5} {
		for i := range ordinary() {
			d := laid(t, "other", []byte("x"))
			whole := ordinary()[:i]
			l := opened(t, d, logName)
			appended(t, l, 0, whole...)
			names, _ := d.List()
			d.Full(refusals)
			r := ordinary()[i]
			for range refusals {
				// The disk's Append alone: there is nothing to sync.
				if n := calls(t, d, func() { appended(t, l, errNoSpace, r) }); n != 1 {
					t.Fatalf("P10.1: a refused Append: %d calls of the disk", n)
				}
				listIs(t, d, names...)
				l = opened(t, d, logName, whole...)
			}
			appended(t, l, 0, r)
			opened(t, d, logName, append(slices.Clone(whole), r)...)
			fileIs(t, d, "other", []byte("x"))
		}
	}
	d := disk.New()
	l := opened(t, d, logName)
	d.Full(3)
	appended(t, l, errNoSpace, ab(65536), commit(65536), ab(65537))
	appended(t, l, 0, ab(65538))
	opened(t, d, logName, ab(65538))
}

// TestAppendCalls: the disk's Append, then its Sync, of that file alone.
func TestAppendCalls(t *testing.T) {
	for _, whole := range [][]api.Record{nil, ordinary()} {
		for _, r := range ordinary() {
			d := laid(t, "other", []byte("x"))
			put(t, d, "other", []byte("unsynced"))
			l := opened(t, d, logName)
			appended(t, l, 0, whole...)
			if n := calls(t, d, func() { appended(t, l, 0, r) }); n != 2 {
				t.Fatalf("P10.1: Append: %d calls of the disk", n)
			}
			l = opened(t, d, logName, append(slices.Clone(whole), r)...)
			put(t, d, "other", []byte("more"))
			appended(t, l, 0, r)
			crashed(d, 0)
			fileIs(t, d, "other", []byte("xunsynced"))
			fileIs(t, d, logName, row(t, append(slices.Clone(whole), r, r)...))
			// Size and Name make no call.
			if n := calls(t, d, func() { _, _ = l.Size(), l.Name() }); n != 0 {
				t.Fatalf("P10.1: Size and Name: %d calls of the disk", n)
			}
		}
	}
}

// TestPowerAlongAppend: off ahead of the disk's Append, between it and Sync, behind it, with all numbers of bytes that stay.
func TestPowerAlongAppend(t *testing.T) {
	for _, whole := range [][]api.Record{nil, {commit(65536)}, ordinary()} {
		for _, r := range []api.Record{commit(65540), ab(65540)} {
			size := len(row(t, r))
			for n := range 3 {
				for keep := -1; keep <= size+1; keep++ {
					checkPower(t, whole, r, n, keep)
				}
				checkPower(t, whole, r, n, math.MaxInt)
				checkPower(t, whole, r, n, math.MinInt)
			}
		}
	}
}

func checkPower(t *testing.T, whole []api.Record, r api.Record, n, keep int) {
	t.Helper()
	d := disk.New()
	l := opened(t, d, logName)
	appended(t, l, 0, whole...)
	before, b := row(t, whole...), row(t, r)
	d.Arm(n, keep)
	err := appendTo(t, l, r)
	if n < 2 && err != errDown || n == 2 && err != 0 || d.Down() != (n < 2) {
		t.Fatalf("P10.1: the power off ahead of the call %d: Append: %d", n, err)
	}
	d.Crash(keep)
	d.Up()
	stays := b
	if n == 0 {
		stays = nil
	} else if n == 1 {
		stays = b[:max(0, min(keep, len(b)))]
	}
	if len(whole) > 0 || n > 0 {
		fileIs(t, d, logName, slices.Concat(before, stays))
	} else {
		listIs(t, d)
	}
	want := slices.Clone(whole)
	if len(stays) == len(b) {
		want = append(want, r)
	}
	l = opened(t, d, logName, want...)
	appended(t, l, 0, ab(65550), r)
	crashed(d, 0)
	opened(t, d, logName, append(want, ab(65550), r)...)
}

// TestTornEnds: every beginning of a record behind whole ones, from no bytes to all but one.
func TestTornEnds(t *testing.T) {
	for count := range 4 {
		for _, r := range ordinary() {
			whole := ordinary()[:count]
			b := row(t, r)
			for n := range len(b) {
				d := laid(t, logName, row(t, whole...))
				put(t, d, logName, b[:n])
				if n%2 == 0 {
					crashed(d, n)
				}
				l := opened(t, d, logName, whole...)
				if n%3 == 0 {
					crashed(d, math.MaxInt)
					l = opened(t, d, logName, whole...)
				}
				// Shorter than what was torn off, or longer: nothing of it comes back.
				appended(t, l, 0, commit(65599))
				fileIs(t, d, logName, row(t, append(slices.Clone(whole), commit(65599))...))
				opened(t, d, logName, append(slices.Clone(whole), commit(65599))...)
			}
		}
	}
	b := row(t, ofSize(t, longest))
	for _, n := range []int{0, 1, 7, 8, 9, len(b) / 2, len(b) - 1} {
		d := laid(t, logName, slices.Concat(b, b[:n]))
		l := opened(t, d, logName, ofSize(t, longest))
		appended(t, l, 0, ab(65536))
		opened(t, d, logName, ofSize(t, longest), ab(65536))
	}
}

// diary is what was asked of one log, told apart by IDs: which records must be there, which may.
type diary struct {
	asked []api.Record
	err   []api.Errno
	there []int // of asked ones: 1: told by an Open since; -1: an Open since didn't
}

func (y *diary) add(r api.Record, err api.Errno) {
	y.asked, y.err, y.there = append(y.asked, r), append(y.err, err), append(y.there, 0)
}

// check holds what an Open told against the promise: the OK ones, perhaps some that answered ErrDown, in order, none twice.
func (y *diary) check(t *testing.T, told []api.Record) {
	t.Helper()
	at := 0
	for i, r := range y.asked {
		is := at < len(told) && same(told[at], r)
		if is {
			at++
		}
		if y.err[i] == 0 && !is {
			t.Fatalf("P10.2: the record %d, whose Append was OK, isn't told at its place: %s", i, short(told))
		}
		if y.err[i] != 0 && y.err[i] != errDown && is {
			t.Fatalf("P10.2: the record %d, whose Append answered %d, is told", i, y.err[i])
		}
		if y.there[i] == 1 && !is || y.there[i] == -1 && is {
			t.Fatalf("P10.2: the record %d: told %v, and by an Open ahead otherwise", i, is)
		}
		y.there[i] = -1
		if is {
			y.there[i] = 1
		}
	}
	if at != len(told) {
		t.Fatalf("P10.2: %d records too many, or not in order: %s", len(told)-at, short(told))
	}
}

// reopen lets Open be crashed some times, and then go well.
func (y *diary) reopen(t *testing.T, d *disk.Disk, crashes ...int) *Log {
	t.Helper()
	for _, n := range crashes {
		d.Up()
		d.Arm(n, n)
		if _, told, err := open(t, d, logName); err == 0 {
			y.check(t, told)
		} else if err != errDown {
			t.Fatalf("P10.2: Open: %d", err)
		}
	}
	d.Up()
	l, told, err := open(t, d, logName)
	if err != 0 {
		t.Fatalf("P10.2: Open: %d", err)
	}
	y.check(t, told)
	return l
}

// made is the record number i of a row: each has an ID of its own.
func made(i int) api.Record {
	id := api.ID(65536 + i*3)
	switch i % 4 {
	case 0:
		return commit(id)
	case 1:
		return prepare(id, list("", "k"), pair("", ""))
	}
	return prepare(id, list("a", "b", "c"), pair("a", strings.Repeat("v", i%50)), pair("c", fmt.Sprint(i)))
}

// TestEveryCrash: rows of three with two crashes at any calls, whatever stays, and Open crashed too.
func TestEveryCrash(t *testing.T) {
	keeps := []int{0, 1, 7, 8, 9, 16, 17, 18, 30, 1000}
	for first := range 7 {
		for second := range 7 {
			for i, keep := range keeps {
				for _, again := range [][]int{nil, {0}, {1}, {2}, {1, 0, 1}} {
					twoCrashes(t, first, keep, second, keeps[(i+second)%len(keeps)], again)
				}
			}
		}
	}
}

func twoCrashes(t *testing.T, first, keep, second, keepThen int, again []int) {
	t.Helper()
	d, y := disk.New(), &diary{}
	for turn, at := range [][2]int{{first, keep}, {second, keepThen}} {
		l := y.reopen(t, d, again...)
		d.Arm(at[0], at[1])
		for i := range 3 {
			r := made(turn*3 + i)
			y.add(r, appendTo(t, l, r))
			if d.Down() {
				break
			}
		}
		d.Crash(at[1])
	}
	l := y.reopen(t, d, again...)
	r := made(9)
	y.add(r, appendTo(t, l, r))
	y.reopen(t, d)
}

// TestRows: long rows of Appends with crashes, refusals, wrong records and Opens between them.
func TestRows(t *testing.T) {
	for seed := range 150 {
		c := rand.New(rand.NewSource(int64(seed)))
		d, y := disk.New(), &diary{}
		l := y.reopen(t, d)
		for i := range 120 {
			switch c.Intn(8) {
			case 0:
				d.Arm(c.Intn(7), c.Intn(120))
			case 1:
				d.Full(c.Intn(3))
			case 2:
				d.Crash(c.Intn(120))
			case 3:
				l = y.reopen(t, d, c.Perm(3)[:c.Intn(3)]...)
			case 4:
				appended(t, l, errArg, api.Record{Kind: kCommit, ID: 5})
			}
			// Behind a crash the log is opened anew ahead of an Append.
			if d.Down() {
				l = y.reopen(t, d)
			}
			r := made(i)
			err := appendTo(t, l, r)
			if err != 0 && err != errNoSpace && err != errDown {
				t.Fatalf("P10.1: Append: %d", err)
			}
			y.add(r, err)
		}
		y.reopen(t, d)
	}
}

// The model: the chapter's words, done to a disk of its own, so that the two disks can be held against each other.

type modelLog struct {
	name string
	size int
}

func modelOpen(d *disk.Disk, name string) (modelLog, []api.Record, api.Errno) {
	b, err := d.Read(name)
	if err == errFile {
		return modelLog{name, 0}, nil, 0
	}
	if err != 0 {
		return modelLog{}, nil, err
	}
	told, n := record.Scan(b)
	if n != len(b) {
		if err := d.Cut(name, n); err != 0 {
			return modelLog{}, nil, err
		}
	}
	return modelLog{name, n}, told, 0
}

func (m *modelLog) append(d *disk.Disk, r api.Record) api.Errno {
	b, err := record.Build(r)
	if err == 0 {
		err = d.Append(m.name, b)
	}
	if err == 0 {
		err = d.Sync(m.name)
	}
	if err == 0 {
		m.size += len(b)
	}
	return err
}

// both is a disk under the program's hands and one under the model's, with the log of each name that is good.
type both struct {
	real, twin *disk.Disk
	logs       map[string]*Log
	models     map[string]*modelLog
}

func newBoth() *both {
	return &both{disk.New(), disk.New(), map[string]*Log{}, map[string]*modelLog{}}
}

// onDisks does one call to both disks.
func (x *both) onDisks(t *testing.T, f func(d *disk.Disk) api.Errno) {
	t.Helper()
	if a, b := f(x.real), f(x.twin); a != b {
		t.Fatalf("P10.1: a call of the disk tells %d, and %d by the model", a, b)
	}
}

func (x *both) open(t *testing.T, name string) {
	t.Helper()
	l, told, err := open(t, x.real, name)
	m, want, wantErr := modelOpen(x.twin, name)
	if err != wantErr || !sameAll(told, want) {
		t.Fatalf("P10.1: Open(%q): %d, %s, want %d, %s", name, err, short(told), wantErr, short(want))
	}
	if err == 0 {
		x.logs[name], x.models[name] = l, &m
	}
}

func (x *both) append(t *testing.T, name string, r api.Record) {
	t.Helper()
	l := x.logs[name]
	if l == nil {
		return
	}
	err, want := appendTo(t, l, r), x.models[name].append(x.twin, r)
	if err != want || l.Size() != x.models[name].size {
		t.Fatalf("P10.1: Append(%s) to %q: %d, Size %d, want %d, %d", short(r), name, err, l.Size(), want, x.models[name].size)
	}
}

// settle forgets the logs of a disk whose power went off, and looks at the others.
func (x *both) settle(t *testing.T) {
	t.Helper()
	if x.real.Down() != x.twin.Down() {
		t.Fatalf("P10.1: the power is off: %v, and by the model %v", x.real.Down(), x.twin.Down())
	}
	if x.real.Down() {
		clear(x.logs)
		clear(x.models)
	}
	for name, l := range x.logs {
		if l.Name() != name || l.Size() != x.models[name].size {
			t.Fatalf("P10.1: the log %q tells %q, %d, want %d", name, l.Name(), l.Size(), x.models[name].size)
		}
	}
}

// look holds all files against each other; the calls are the same on both disks.
func (x *both) look(t *testing.T) {
	t.Helper()
	if a, b := lookAt(x.real), lookAt(x.twin); a != b {
		t.Fatalf("P10.1: the disk holds\n%s\nwant\n%s", a, b)
	}
}

func lookAt(d *disk.Disk) string {
	var s strings.Builder
	names, err := d.List()
	fmt.Fprintln(&s, names, err)
	for _, name := range names {
		b, err := d.Read(name)
		fmt.Fprintf(&s, "%q [% x] %d\n", name, b, err)
	}
	return s.String()
}

// dissect tells all of a disk: what it is armed with, its refusals, and which bytes are synced. It is of no use then.
func dissect(d *disk.Disk) string {
	var s strings.Builder
	for range 6 {
		_, err := d.List()
		fmt.Fprint(&s, err, " ")
	}
	d.Up()
	s.WriteString(lookAt(d))
	for range 4 {
		fmt.Fprint(&s, d.Append("probe", []byte("p")), " ")
	}
	crashed(d, 0)
	s.WriteString(lookAt(d))
	return s.String()
}

// TestAllScripts: every script of a few calls on one file; what all disks hold is looked at behind each.
func TestAllScripts(t *testing.T) {
	torn := row(t, ab(65541))[:11]
	bad := commit(65535)
	steps := []func(t *testing.T, x *both){
		func(t *testing.T, x *both) { x.open(t, logName) },
		func(t *testing.T, x *both) { x.append(t, logName, commit(65540)) },
		func(t *testing.T, x *both) { x.append(t, logName, ab(65542)) },
		func(t *testing.T, x *both) { x.append(t, logName, bad) },
		func(t *testing.T, x *both) {
			x.onDisks(t, func(d *disk.Disk) api.Errno { return d.Append(logName, torn) })
		},
		func(t *testing.T, x *both) {
			x.onDisks(t, func(d *disk.Disk) api.Errno { return d.Delete(logName) })
		},
		func(t *testing.T, x *both) { x.onDisks(t, func(d *disk.Disk) api.Errno { d.Full(1); return 0 }) },
		func(t *testing.T, x *both) { x.onDisks(t, func(d *disk.Disk) api.Errno { d.Arm(0, 100); return 0 }) },
		func(t *testing.T, x *both) { x.onDisks(t, func(d *disk.Disk) api.Errno { d.Arm(1, 12); return 0 }) },
		func(t *testing.T, x *both) { x.onDisks(t, func(d *disk.Disk) api.Errno { d.Arm(1, 100); return 0 }) },
		func(t *testing.T, x *both) { x.onDisks(t, func(d *disk.Disk) api.Errno { crashed(d, 5); return 0 }) },
	}
	const most = 5
	script := make([]int, 0, most)
	var all func()
	all = func() {
		x := newBoth()
		x.open(t, logName)
		for _, s := range script {
			steps[s](t, x)
			// A crash whose power is on again at once doesn't show in settle.
			if s == len(steps)-1 {
				x = &both{x.real, x.twin, map[string]*Log{}, map[string]*modelLog{}}
			}
			x.settle(t)
			if x.real.Down() {
				x.real.Up()
				x.twin.Up()
			}
		}
		if a, b := dissect(x.real), dissect(x.twin); a != b {
			t.Fatalf("P10.1: behind %v the disk is\n%s\nwant\n%s", script, a, b)
		}
		if len(script) == most {
			return
		}
		for s := range steps {
			script = append(script, s)
			all()
			script = script[:len(script)-1]
		}
	}
	all()
}

// chance makes things up.
type chance struct{ *rand.Rand }

func (c chance) name() string {
	return []string{logName, "log.1", "x", "", strings.Repeat("n", 33)}[c.Intn(5)]
}

func (c chance) record() api.Record {
	switch c.Intn(6) {
	case 0:
		return unlawful()[c.Intn(len(unlawful()))]
	case 1:
		return ordinary()[c.Intn(len(ordinary()))]
	}
	return made(c.Intn(100))
}

// junk is bytes as they may stand at a file's end: of a whole record, a beginning, a changed one, of none.
func (c chance) junk(t *testing.T) []byte {
	b := row(t, made(c.Intn(100)))
	switch c.Intn(4) {
	case 0:
		b = b[:c.Intn(len(b))]
	case 1:
		b[c.Intn(len(b))] ^= 1 << c.Intn(8)
	case 2:
		b = noRecords(t)[c.Intn(len(noRecords(t)))]
	}
	return b
}

func (c chance) step(t *testing.T, x *both) {
	t.Helper()
	name, to, b, n, keep := c.name(), c.name(), c.junk(t), c.Intn(9), c.Intn(80)
	calls := []func(d *disk.Disk) api.Errno{
		func(d *disk.Disk) api.Errno { return d.Append(name, b) },
		func(d *disk.Disk) api.Errno { return d.Sync(name) },
		func(d *disk.Disk) api.Errno { return d.Cut(name, keep) },
		func(d *disk.Disk) api.Errno { return d.Delete(name) },
		func(d *disk.Disk) api.Errno { return d.Rename(name, to) },
		func(d *disk.Disk) api.Errno { d.Full(n % 4); return 0 },
		func(d *disk.Disk) api.Errno { d.Arm(n, keep); return 0 },
		func(d *disk.Disk) api.Errno { d.Crash(keep); return 0 },
	}
	switch i := c.Intn(30); {
	case i < len(calls):
		x.onDisks(t, calls[i])
	case i < 15:
		x.open(t, name)
	case i < 17:
		x.look(t)
	default:
		x.append(t, name, c.record())
	}
	x.settle(t)
	// The power comes on again some calls later.
	if x.real.Down() && c.Intn(3) == 0 {
		x.real.Up()
		x.twin.Up()
	}
}

// TestChance: logs on disks to which anything else happens, too; three disks in turns, which know nothing of one another.
func TestChance(t *testing.T) {
	for seed := range 300 {
		c := chance{rand.New(rand.NewSource(int64(seed)))}
		all := []*both{newBoth(), newBoth(), newBoth()}
		for range 200 {
			c.step(t, all[c.Intn(len(all))])
		}
		for _, x := range all {
			if a, b := dissect(x.real), dissect(x.twin); a != b {
				t.Fatalf("P10.1: seed %d: the disk is\n%s\nwant\n%s", seed, a, b)
			}
		}
	}
}

// TestTwoLogs: two on one disk, and two disks with logs of one name, know nothing of one another.
func TestTwoLogs(t *testing.T) {
	d, e := disk.New(), disk.New()
	type one struct {
		d    *disk.Disk
		name string
		l    *Log
		want []api.Record
	}
	all := []*one{{d: d, name: "log.0"}, {d: d, name: "log.1"}, {d: e, name: "log.0"}, {d: e, name: "\x00"}}
	for _, o := range all {
		o.l = opened(t, o.d, o.name)
	}
	for i := range 40 {
		o := all[i*i%len(all)^i%3]
		appended(t, o.l, 0, made(i))
		o.want = append(o.want, made(i))
		for _, o := range all {
			if want := len(row(t, o.want...)); o.l.Size() != want || o.l.Name() != o.name {
				t.Fatalf("P10.3: %q, %d, want %q, %d", o.l.Name(), o.l.Size(), o.name, want)
			}
			if len(o.want) > 0 {
				fileIs(t, o.d, o.name, row(t, o.want...))
			}
		}
	}
	for _, o := range all {
		if len(o.want) == 0 {
			t.Fatal("the test left out a log")
		}
	}
	// The power of one disk: the other's logs go on.
	d.Crash(0)
	appended(t, all[2].l, 0, commit(99999))
	all[2].want = append(all[2].want, commit(99999))
	d.Up()
	// A torn end of one file: the other on that disk stays as it is.
	put(t, d, "log.1", []byte("torn"))
	put(t, d, "log.0", []byte("torn too"))
	all[1].l = opened(t, d, "log.1", all[1].want...)
	fileIs(t, d, "log.0", append(row(t, all[0].want...), "torn too"...))
	for _, o := range all {
		opened(t, o.d, o.name, o.want...)
	}
	listIs(t, d, "log.0", "log.1")
	listIs(t, e, "\x00", "log.0")
}

// TestFileChangedBehindTheLog: Size is of the log's records, whatever was done to its file since.
func TestFileChangedBehindTheLog(t *testing.T) {
	d := disk.New()
	l := opened(t, d, logName)
	appended(t, l, 0, ab(65536), commit(65536))
	want := l.Size()
	put(t, d, logName, []byte("strange"))
	if l.Size() != want {
		t.Errorf("P10.1: Size %d, want %d", l.Size(), want)
	}
	appended(t, l, 0, commit(65537))
	fileIs(t, d, logName, slices.Concat(row(t, ab(65536), commit(65536)), []byte("strange"), row(t, commit(65537))))
	opened(t, d, logName, ab(65536), commit(65536))
	if err := d.Delete(logName); err != 0 {
		t.Fatal(err)
	}
	if want += 17; l.Size() != want {
		t.Errorf("P10.1: Size %d, want %d", l.Size(), want)
	}
	appended(t, l, 0, commit(65538))
	fileIs(t, d, logName, row(t, commit(65538)))
}

// TestMemory: what is told is written over, and told again as it was; lists of an answer are apart.
func TestMemory(t *testing.T) {
	d := disk.New()
	l := opened(t, d, logName)
	all := ordinary()
	appended(t, l, 0, all...)
	_, x, _ := Open(d, logName)
	_, y, _ := Open(d, logName)
	for i, r := range x {
		fill(r.Keys, fmt.Sprint(i))
		fill(r.Pairs, pair(fmt.Sprint(i), ""))
	}
	for i, r := range x {
		for _, k := range r.Keys[:cap(r.Keys)] {
			if k != fmt.Sprint(i) {
				t.Fatalf("P10.5: the record %d shares its keys with another", i)
			}
		}
		for _, p := range r.Pairs[:cap(r.Pairs)] {
			if p != pair(fmt.Sprint(i), "") {
				t.Fatalf("P10.5: the record %d shares its pairs with another", i)
			}
		}
	}
	fill(x, api.Record{})
	if !sameAll(y, all) {
		t.Fatal("P10.5: two calls of Open share memory")
	}
	spoil(y...)
	fill(y, api.Record{})
	fileIs(t, d, logName, row(t, all...))
	appended(t, l, 0, all[0])
	opened(t, d, logName, append(slices.Clone(all), all[0])...)
}

// TestHandedIn: records that share their lists, and lists that are written over between the calls.
func TestHandedIn(t *testing.T) {
	d := disk.New()
	l := opened(t, d, logName)
	keys := []string{"a", "b", "c", "d"}
	pairs := []api.Pair{pair("a", "1"), pair("b", "2"), pair("c", "3")}
	var want []api.Record
	for i := range 10 {
		pairs[0].Value = fmt.Sprint(i)
		r := prepare(api.ID(65536+i), keys[:1+i%4], pairs[:1+min(i%4, i%3)]...)
		if err := l.Append(r); err != 0 {
			t.Fatalf("P10.1: Append: %d", err)
		}
		want = append(want, copied([]api.Record{r})...)
	}
	fill(keys, "!")
	fill(pairs, pair("!", "!"))
	opened(t, d, logName, want...)
}

func heap() uint64 {
	var m runtime.MemStats
	runtime.GC()
	runtime.ReadMemStats(&m)
	return m.HeapAlloc
}

// TestNamesAreNotKept: a name that is a piece of a long text is kept without the text.
func TestNamesAreNotKept(t *testing.T) {
	const size = 64 << 20
	d := disk.New()
	before := heap()
	l, _, _ := Open(d, strings.Repeat("a", size)[:3])
	l.Append(commit(65536))
	m, _, _ := Open(d, strings.Repeat("a", size)[:3])
	if after := heap(); after > before+size/2 {
		t.Errorf("P10.5: what was handed in is kept: %d bytes more", after-before)
	}
	if l.Name() != "aaa" || m.Name() != "aaa" {
		t.Errorf("P10.1: Name %q, %q", l.Name(), m.Name())
	}
}

// TestLogKeepsNoRecords: neither what was appended nor what Open told stays with the log.
func TestLogKeepsNoRecords(t *testing.T) {
	before := heap()
	d := disk.New()
	l, _, _ := Open(d, logName)
	for range 40 {
		if err := l.Append(ofSize(t, longest)); err != 0 {
			t.Fatal(err)
		}
	}
	if err := d.Rename(logName, "y"); err != 0 {
		t.Fatal(err)
	}
	m, told, _ := Open(d, "y")
	if len(told) != 40 || m.Size() != 40*(8+longest) {
		t.Fatalf("P10.1: %d records, Size %d", len(told), m.Size())
	}
	told = nil
	if err := d.Delete("y"); err != 0 {
		t.Fatal(err)
	}
	if after := heap(); after > before+20*longest {
		t.Errorf("P10.5: %d bytes are kept", after-before)
	}
	if l.Size() != m.Size() {
		t.Errorf("P10.3: Size %d, %d", l.Size(), m.Size())
	}
}

// TestOldLog: of a log whose disk had its power off nothing is promised but that no call panics.
func TestOldLog(t *testing.T) {
	d := disk.New()
	l := opened(t, d, logName)
	appended(t, l, 0, ab(65536))
	d.Crash(0)
	for range 3 {
		l.Append(commit(65537))
		l.Size()
		l.Name()
		d.Up()
	}
}

// TestLongLog: many records.
func TestLongLog(t *testing.T) {
	d := disk.New()
	l := opened(t, d, logName)
	var want []api.Record
	for i := range 5000 {
		appended(t, l, 0, made(i))
		want = append(want, made(i))
	}
	put(t, d, logName, row(t, made(1))[:20])
	crashed(d, 19)
	l = opened(t, d, logName, want...)
	appended(t, l, 0, made(5000))
	opened(t, d, logName, append(want, made(5000))...)
}
