package disk

import (
	"bytes"
	"fmt"
	"math"
	"math/rand"
	"runtime"
	"slices"
	"strings"
	"testing"

	"rampart/api"
)

// Kinds of calls in a script.
const (
	doAppend = iota
	doSync
	doRead
	doSize
	doCut
	doDelete
	doRename
	doList
	doCrash
	doUp
	doDown
	doFull
	doArm
)

// call is one call of a disk; fields that its kind doesn't have are zero.
type call struct {
	kind     int
	name, to string
	b        string
	n, keep  int
}

func (c call) counted() bool { return c.kind <= doList }

func (c call) String() string {
	word := []string{"Append", "Sync", "Read", "Size", "Cut", "Delete", "Rename", "List", "Crash", "Up", "Down", "Full", "Arm"}[c.kind]
	return fmt.Sprintf("%s(%q %q %q %d %d)", word, c.name, c.to, c.b, c.n, c.keep)
}

// answer is what a call told, all of it.
type answer struct {
	err  api.Errno
	b    string
	n    int
	list string
	down bool
}

func quoted(l []string) string { return fmt.Sprintf("%q", l) }

// mark stands in the spare room of what is handed in.
const mark = 0xA5

// roomy is bytes with spare room, marked.
func roomy(s string) []byte {
	b := make([]byte, len(s)+9)
	for i := range b {
		b[i] = mark
	}
	copy(b, s)
	return b[:len(s)]
}

func isRoomy(b []byte, s string) bool {
	all := b[:cap(b)]
	return string(all[:len(s)]) == s && bytes.Count(all[len(s):], []byte{mark}) == len(all)-len(s)
}

// spoil writes over a list and its spare room.
func spoil[T any](l []T, v T) {
	l = l[:cap(l)]
	for i := range l {
		l[i] = v
	}
}

// on does a call. What it hands in and what it is answered is spoilt at once: a disk that shares it would tell.
func on(t *testing.T, d *Disk, c call) answer {
	t.Helper()
	a := answer{list: quoted(nil)}
	switch c.kind {
	case doAppend:
		b := roomy(c.b)
		a.err = d.Append(c.name, b)
		if !isRoomy(b, c.b) {
			t.Fatalf("memory: %v changed what was handed in: %q", c, b[:cap(b)])
		}
		spoil(b, '!')
	case doSync:
		a.err = d.Sync(c.name)
	case doRead:
		b, err := d.Read(c.name)
		a.b, a.err = string(b), err
		spoil(b, '?')
	case doSize:
		a.n, a.err = d.Size(c.name)
	case doCut:
		a.err = d.Cut(c.name, c.n)
	case doDelete:
		a.err = d.Delete(c.name)
	case doRename:
		a.err = d.Rename(c.name, c.to)
	case doList:
		l, err := d.List()
		a.list, a.err = quoted(l), err
		spoil(l, "spoilt")
	case doCrash:
		d.Crash(c.n)
	case doUp:
		d.Up()
	case doDown:
		a.down = d.Down()
	case doFull:
		d.Full(c.n)
	case doArm:
		d.Arm(c.n, c.keep)
	}
	return a
}

// model is the chapter's disk: files in the order in which they were made, each as two texts.
type model struct {
	files    []modelFile
	off      bool
	refusals int
	armed    bool
	calls    int
	keep     int
}

type modelFile struct{ name, synced, tail string }

func (m *model) at(name string) int {
	return slices.IndexFunc(m.files, func(f modelFile) bool { return f.name == name })
}

func (m *model) crash(keep int) {
	if m.off {
		return
	}
	for i, f := range m.files {
		stays := ""
		for j := range len(f.tail) {
			if j < keep {
				stays += f.tail[j : j+1]
			}
		}
		m.files[i] = modelFile{f.name, f.synced + stays, ""}
	}
	m.off, m.armed = true, false
}

func (m *model) do(c call) answer {
	a := answer{list: quoted(nil)}
	if c.counted() {
		if m.armed && m.calls == 0 {
			m.crash(m.keep)
		} else if m.armed {
			m.calls--
		}
		if m.off {
			a.err = api.ErrDown
			return a
		}
		m.counted(c, &a)
		return a
	}
	switch c.kind {
	case doCrash:
		m.crash(c.n)
	case doUp:
		m.off, m.armed = false, false
	case doDown:
		a.down = m.off
	case doFull:
		m.refusals = c.n
		if c.n < 0 {
			m.refusals = 0
		}
	case doArm:
		m.armed, m.calls, m.keep = c.n >= 0, c.n, c.keep
	}
	return a
}

// counted does a call for which the power is on.
func (m *model) counted(c call, a *answer) {
	i := m.at(c.name)
	switch c.kind {
	case doAppend:
		a.err = m.append(c, i)
		return
	case doRename:
		a.err = m.rename(c, i)
		return
	case doList:
		var l []string
		for _, f := range m.files {
			l = append(l, f.name)
		}
		slices.Sort(l)
		a.list = quoted(l)
		return
	}
	if i < 0 {
		a.err = api.ErrFile
		return
	}
	f := &m.files[i]
	switch all := f.synced + f.tail; c.kind {
	case doSync:
		f.synced, f.tail = all, ""
	case doRead:
		a.b = all
	case doSize:
		a.n = len(all)
	case doCut:
		if c.n < 0 || c.n > len(all) {
			a.err = api.ErrArg
		} else if c.n <= len(f.synced) {
			f.synced, f.tail = f.synced[:c.n], ""
		} else {
			f.tail = f.tail[:c.n-len(f.synced)]
		}
	case doDelete:
		m.files = slices.Delete(m.files, i, i+1)
	}
}

func (m *model) append(c call, i int) api.Errno {
	if c.name == "" || len(c.name) > 32 {
		return api.ErrArg
	}
	if i < 0 && len(m.files) == 16 {
		return api.ErrLong
	}
	if c.b != "" && m.refusals > 0 {
		m.refusals--
		return api.ErrNoSpace
	}
	if i < 0 {
		m.files = append(m.files, modelFile{name: c.name})
		i = len(m.files) - 1
	}
	m.files[i].tail += c.b
	return api.OK
}

func (m *model) rename(c call, i int) api.Errno {
	if c.to == "" || len(c.to) > 32 {
		return api.ErrArg
	}
	if i < 0 {
		return api.ErrFile
	}
	moved := m.files[i]
	moved.name = c.to
	m.files = slices.DeleteFunc(m.files, func(f modelFile) bool { return f.name == c.name || f.name == c.to })
	m.files = append(m.files, moved)
	return api.OK
}

// run does a script on a new disk.
func run(t *testing.T, script []call) *Disk {
	t.Helper()
	d := New()
	for _, c := range script {
		on(t, d, c)
	}
	return d
}

// holdAgainst does a script on a disk and its model.
func holdAgainst(t *testing.T, d *Disk, m *model, script []call) {
	t.Helper()
	for i, c := range script {
		if got, want := on(t, d, c), m.do(c); got != want {
			t.Fatalf("P6.1: the last of %v: %+v, want %+v", script[:i+1], got, want)
		}
	}
}

// same does a script on two disks, which must tell the same.
func same(t *testing.T, what string, a, b *Disk, script []call) {
	t.Helper()
	for i, c := range script {
		if x, y := on(t, a, c), on(t, b, c); x != y {
			t.Fatalf("%s: the last of %v: %+v and %+v", what, script[:i+1], x, y)
		}
	}
}

// told is calls by which all of a disk is told: its arming, files, refusals (a few), and what of the files is synced.
func told(names []string) []call {
	var reads []call
	for _, name := range names {
		reads = append(reads, call{kind: doRead, name: name}, call{kind: doSize, name: name})
	}
	l := append([]call{{kind: doDown}, {kind: doList}}, reads...)
	l = append(l, call{kind: doDown}, call{kind: doUp}, call{kind: doDown}, call{kind: doList})
	l = append(l, reads...)
	l = append(l, call{kind: doCrash, n: 0}, call{kind: doUp}, call{kind: doList})
	l = append(l, reads...)
	for range 4 {
		l = append(l, call{kind: doAppend, name: names[0], b: "#"}, call{kind: doSize, name: names[0]})
	}
	return l
}

// files is what a disk holds, its power turned on.
func files(t *testing.T, d *Disk) map[string]string {
	t.Helper()
	d.Up()
	names, err := d.List()
	if err != api.OK {
		t.Fatalf("P6.1: List = %d", int(err))
	}
	all := map[string]string{}
	for _, name := range names {
		b, err := d.Read(name)
		if err != api.OK {
			t.Fatalf("P6.1: Read(%q), which is listed = %d", name, int(err))
		}
		all[name] = string(b)
	}
	return all
}

// pool is names for a script: few, so that they meet, or more than a disk may have, with some that may not be.
func pool(g *rand.Rand) []string {
	names := []string{"a", "b", "log.0", ""}
	if g.Intn(3) > 0 {
		return names
	}
	for i := range 18 {
		names = append(names, strings.Repeat(string(rune('c'+i)), 1+i*2))
	}
	return append(names, "\x00", "\xff\xfe", strings.Repeat("n", 32), strings.Repeat("n", 33), strings.Repeat("n", 64))
}

func oneOf[T any](g *rand.Rand, l []T) T { return l[g.Intn(len(l))] }

var numbers = []int{0, 0, 1, 1, 2, 3, 4, 5, 7, 12, -1, -2, math.MaxInt, math.MaxInt - 1, math.MinInt}

func randomBytes(g *rand.Rand) string {
	b := make([]byte, g.Intn(4)*g.Intn(4))
	g.Read(b)
	return string(b)
}

// randomCall is a call that makes more than it takes away.
func randomCall(g *rand.Rand, names []string) call {
	name := oneOf(g, names)
	switch r := g.Intn(60); {
	case r < 22:
		return call{kind: doAppend, name: name, b: randomBytes(g)}
	case r < 28:
		return call{kind: doSync, name: name}
	case r < 32:
		return call{kind: doRead, name: name}
	case r < 34:
		return call{kind: doSize, name: name}
	case r < 38:
		return call{kind: doCut, name: name, n: oneOf(g, numbers)}
	case r < 39:
		return call{kind: doDelete, name: name}
	case r < 42:
		return call{kind: doRename, name: name, to: oneOf(g, names)}
	case r < 45:
		return call{kind: doList}
	case r < 47:
		return call{kind: doCrash, n: oneOf(g, numbers)}
	case r < 53:
		return call{kind: doUp}
	case r < 55:
		return call{kind: doDown}
	case r < 57:
		return call{kind: doFull, n: min(oneOf(g, numbers), 5)}
	}
	return call{kind: doArm, n: oneOf(g, numbers), keep: oneOf(g, numbers)}
}

func randomScript(g *rand.Rand, names []string, length int) []call {
	var l []call
	for range length {
		l = append(l, randomCall(g, names))
	}
	return l
}

// without is a script without the calls that move the power and the arming.
func without(script []call) []call {
	return slices.DeleteFunc(slices.Clone(script), func(c call) bool {
		return c.kind == doArm || c.kind == doCrash || c.kind == doUp
	})
}

func is(t *testing.T, what string, got, want api.Errno) {
	t.Helper()
	if got != want {
		t.Errorf("%s: %d, want %d", what, int(got), int(want))
	}
}

func holds(t *testing.T, what string, d *Disk, name, want string) {
	t.Helper()
	b, err := d.Read(name)
	n, err2 := d.Size(name)
	if string(b) != want || err != api.OK || n != len(want) || err2 != api.OK {
		t.Errorf("%s: %q = %q, %d, Size %d, %d, want %q", what, name, b, int(err), n, int(err2), want)
	}
}

func lists(t *testing.T, what string, d *Disk, want ...string) {
	t.Helper()
	if l, err := d.List(); !slices.Equal(l, want) || err != api.OK {
		t.Errorf("%s: List = %q, %d, want %q", what, l, int(err), want)
	}
}

func long(n int) string { return strings.Repeat("n", n) }

// crashed lets the power go off and on.
func crashed(d *Disk, keep int) {
	d.Crash(keep)
	d.Up()
}

func TestExamples(t *testing.T) {
	d := New()
	is(t, "P6.1: example 1: Append", d.Append("a", []byte("xy")), api.OK)
	is(t, "P6.1: example 1: Sync", d.Sync("a"), api.OK)
	is(t, "P6.1: example 1: Append", d.Append("a", []byte("z1")), api.OK)
	d.Crash(1)
	if b, err := d.Read("a"); len(b) != 0 || err != api.ErrDown {
		t.Errorf("P6.1: example 1: Read with the power off = %q, %d", b, int(err))
	}
	d.Up()
	holds(t, "P6.1: example 1", d, "a", "xyz")
	crashed(d, 0)
	holds(t, "P6.1: example 1", d, "a", "xyz")
	if b, err := d.Read("b"); len(b) != 0 || err != api.ErrFile {
		t.Errorf("P6.1: example 1: Read of none = %q, %d", b, int(err))
	}

	is(t, "P6.1: example 2: Append", d.Append("a", []byte("k")), api.OK)
	is(t, "P6.1: example 2: Rename", d.Rename("a", "b"), api.OK)
	crashed(d, 0)
	lists(t, "P6.1: example 2", d, "b")
	holds(t, "P6.1: example 2", d, "b", "xyz")
	is(t, "P6.1: example 2: Cut", d.Cut("b", 2), api.OK)
	is(t, "P6.1: example 2: Cut beyond", d.Cut("b", 3), api.ErrArg)
	holds(t, "P6.1: example 2", d, "b", "xy")

	d.Full(1)
	is(t, "P6.1: example 3: Append of nothing", d.Append("n", nil), api.OK)
	is(t, "P6.1: example 3: Append refused", d.Append("n", []byte("1")), api.ErrNoSpace)
	is(t, "P6.1: example 3: Append", d.Append("n", []byte("1")), api.OK)
	is(t, "P6.1: example 3: Append to no name", d.Append("", []byte("1")), api.ErrArg)

	d.Arm(1, 0)
	is(t, "P6.1: example 4: Append", d.Append("n", []byte("2")), api.OK)
	is(t, "P6.1: example 4: Sync", d.Sync("n"), api.ErrDown)
	if !d.Down() {
		t.Error("P6.1: example 4: Down() = false")
	}
	d.Up()
	holds(t, "P6.1: example 4", d, "n", "")

	for i := 0; len(files(t, d)) < 16; i++ {
		is(t, "P6.1: example 3: Append", d.Append(string(rune('A'+i)), nil), api.OK)
	}
	is(t, "P6.1: example 3: Append to a file too many", d.Append("another", nil), api.ErrLong)
}

func TestNew(t *testing.T) {
	d := New()
	if d == nil || d.Down() {
		t.Fatal("P6.1: New: no disk, or its power is off")
	}
	lists(t, "P6.1: New", d)
	is(t, "P6.1: New: there are refusals", d.Append("a", []byte("1")), api.OK)
	for range 100 {
		holds(t, "P6.1: New: it is armed", d, "a", "1")
	}
	if e := New(); e == d {
		t.Error("P6.1: New gave one disk twice")
	}
}

// Every script of four calls on two files.
func TestShortScripts(t *testing.T) {
	alphabet := []call{
		{kind: doAppend, name: "a", b: "xyz"}, {kind: doAppend, name: "a"}, {kind: doAppend, name: "b", b: "pq"},
		{kind: doSync, name: "a"}, {kind: doSync, name: "b"}, {kind: doRead, name: "a"},
		{kind: doCut, name: "a", n: 2}, {kind: doDelete, name: "a"},
		{kind: doRename, name: "a", to: "b"}, {kind: doRename, name: "b", to: "a"}, {kind: doRename, name: "a", to: "a"},
		{kind: doCrash}, {kind: doCrash, n: 1}, {kind: doUp}, {kind: doFull, n: 1},
		{kind: doArm, n: 0, keep: 1}, {kind: doArm, n: 1}, {kind: doArm, n: -1},
	}
	end := told([]string{"a", "b"})
	for i := range alphabet {
		for j := range alphabet {
			for k := range alphabet {
				for l := range alphabet {
					script := append([]call{alphabet[i], alphabet[j], alphabet[k], alphabet[l]}, end...)
					holdAgainst(t, New(), &model{}, script)
				}
			}
		}
	}
}

func TestRandomScripts(t *testing.T) {
	g := rand.New(rand.NewSource(61))
	full := 0
	for range 3000 {
		names := pool(g)
		d, m := New(), &model{}
		holdAgainst(t, d, m, randomScript(g, names, 150))
		if len(m.files) == 16 {
			full++
		}
		holdAgainst(t, d, m, told(names))
	}
	if full < 50 {
		t.Errorf("of the scripts only %d filled a disk", full)
	}
}

// Two disks in turns, by scripts of their own over the same names.
func TestTwoDisks(t *testing.T) {
	g := rand.New(rand.NewSource(62))
	for range 300 {
		names := pool(g)
		d, m := [2]*Disk{New(), New()}, [2]*model{{}, {}}
		for range 300 {
			i := g.Intn(2)
			c := randomCall(g, names)
			if got, want := on(t, d[i], c), m[i].do(c); got != want {
				t.Fatalf("P6.1: %v on one of two disks: %+v, want %+v", c, got, want)
			}
		}
		for i := range d {
			holdAgainst(t, d[i], m[i], told(names))
		}
	}
	a, b := New(), New()
	a.Append("a", []byte("1"))
	a.Full(1)
	a.Arm(0, 0)
	lists(t, "P6.1: a disk beside another", b)
	is(t, "P6.1: a disk beside one that refuses", b.Append("a", []byte("2")), api.OK)
	is(t, "P6.1: a disk beside one that is armed", b.Sync("a"), api.OK)
	a.Crash(0)
	if b.Down() || !a.Down() {
		t.Error("P6.1: a crash of one disk is one of the other")
	}
	holds(t, "P6.1: a disk beside one that is down", b, "a", "2")
}

// The same script on two new disks tells the same: nothing hangs on a map's order.
func TestOneOutcome(t *testing.T) {
	g := rand.New(rand.NewSource(63))
	for range 300 {
		names := pool(g)
		same(t, "P6.1: two disks by one script", New(), New(), append(randomScript(g, names, 150), told(names)...))
	}
}

func TestNames(t *testing.T) {
	wrong := []string{"", long(33), long(34), long(64), long(288), long(1 << 20)}
	right := []string{"a", "\x00", "\xff", "/", "..", " ", "a\x00", "ä", long(2), long(31), long(32), strings.Repeat("\xfe", 32)}
	for _, name := range wrong {
		d := New()
		what := fmt.Sprintf("P6.1: a name of %d bytes: ", len(name))
		is(t, what+"Append", d.Append(name, []byte("1")), api.ErrArg)
		is(t, what+"Append of nothing", d.Append(name, nil), api.ErrArg)
		is(t, what+"Sync", d.Sync(name), api.ErrFile)
		is(t, what+"Cut", d.Cut(name, 0), api.ErrFile)
		is(t, what+"Delete", d.Delete(name), api.ErrFile)
		is(t, what+"Rename of none", d.Rename(name, "a"), api.ErrFile)
		is(t, what+"Rename of none to itself", d.Rename(name, name), api.ErrArg)
		if b, err := d.Read(name); len(b) != 0 || err != api.ErrFile {
			t.Errorf("%sRead = %q, %d", what, b, int(err))
		}
		if n, err := d.Size(name); n != 0 || err != api.ErrFile {
			t.Errorf("%sSize = %d, %d", what, n, int(err))
		}
		lists(t, what, d)
		d.Append("a", []byte("1"))
		is(t, what+"Rename", d.Rename("a", name), api.ErrArg)
		is(t, what+"Rename of no file", d.Rename("none", name), api.ErrArg)
		lists(t, what, d, "a")
	}
	d := New()
	for i, name := range right {
		is(t, fmt.Sprintf("P6.1: Append(%q)", name), d.Append(name, []byte{byte(i)}), api.OK)
	}
	sorted := slices.Sorted(slices.Values(right))
	lists(t, "P6.1: names of all kinds", d, sorted...)
	for i, name := range right {
		holds(t, "P6.1: names of all kinds", d, name, string(rune(i)))
		is(t, fmt.Sprintf("P6.1: Rename(%q)", name), d.Rename(name, "x"), api.OK)
		is(t, fmt.Sprintf("P6.1: Rename to %q", name), d.Rename("x", name), api.OK)
	}
	lists(t, "P6.1: names of all kinds", d, sorted...)
}

// manyFiles has n files of one byte each.
func manyFiles(t *testing.T, n int) *Disk {
	t.Helper()
	d := New()
	for i := range n {
		is(t, fmt.Sprintf("P6.1: Append to file %d", i), d.Append(string(rune('a'+i)), []byte{byte(i)}), api.OK)
	}
	return d
}

func TestSixteenFiles(t *testing.T) {
	d := manyFiles(t, 16)
	for _, b := range []string{"", "1"} {
		is(t, "P6.1: a file too many", d.Append("z", []byte(b)), api.ErrLong)
		is(t, "P6.1: one of 16 files", d.Append("p", []byte(b)), api.OK)
	}
	holds(t, "P6.1: one of 16 files", d, "p", "\x0f1")
	if l, _ := d.List(); len(l) != 16 || slices.Contains(l, "z") {
		t.Errorf("P6.4: a file too many was made: %q", l)
	}
	is(t, "P6.1: Rename with 16 files", d.Rename("a", "z"), api.OK)
	is(t, "P6.1: a file too many behind a Rename", d.Append("a", nil), api.ErrLong)
	crashed(d, 0)
	is(t, "P6.1: a file too many behind a crash", d.Append("a", nil), api.ErrLong)
	is(t, "P6.1: Rename over another", d.Rename("z", "b"), api.OK)
	is(t, "P6.1: a file in the room that a Rename left", d.Append("a", nil), api.OK)
	is(t, "P6.1: a file too many", d.Append("z", nil), api.ErrLong)
	is(t, "P6.1: Delete", d.Delete("c"), api.OK)
	is(t, "P6.1: a file in the room that a Delete left", d.Append("z", nil), api.OK)
	is(t, "P6.1: a file too many", d.Append("c", nil), api.ErrLong)
}

// Each call with several errors that apply: the one that the chapter names first is told.
func TestErrorsInOrder(t *testing.T) {
	d := manyFiles(t, 16)
	d.Full(1)
	is(t, "P6.1: no name, 16 files, refusals", d.Append("", []byte("1")), api.ErrArg)
	is(t, "P6.1: a file too many, refusals", d.Append("z", []byte("1")), api.ErrLong)
	is(t, "P6.1: refusals", d.Append("a", []byte("1")), api.ErrNoSpace)
	is(t, "P6.1: no refusal left", d.Append("a", []byte("1")), api.OK)
	is(t, "P6.1: Cut of no file below 0", d.Cut("z", -1), api.ErrFile)
	is(t, "P6.1: Rename of no file to no name", d.Rename("z", ""), api.ErrArg)

	d.Crash(9)
	d.Full(1)
	b, errRead := d.Read("z")
	n, errSize := d.Size("z")
	l, errList := d.List()
	errs := []api.Errno{d.Append("", nil), d.Append("z", nil), d.Append("a", []byte("1")), d.Append("a", nil), d.Sync("z"), d.Sync("a"),
		d.Cut("z", 0), d.Cut("a", -1), d.Cut("a", 0), d.Delete("z"), d.Delete("a"), d.Rename("a", ""), d.Rename("z", "a"), d.Rename("a", "b"),
		d.Rename("a", "a"), errRead, errSize, errList}
	for i, err := range errs {
		is(t, fmt.Sprintf("P6.1: call %d with the power off", i), err, api.ErrDown)
	}
	if len(b) != 0 || n != 0 || len(l) != 0 {
		t.Errorf("P6.1: with the power off: Read = %q, Size = %d, List = %q", b, n, l)
	}
	d.Up()
	is(t, "P6.4: a refusal was taken with the power off", d.Append("a", []byte("1")), api.ErrNoSpace)
	holds(t, "P6.4: calls with the power off", d, "a", "\x001")
}

func TestFull(t *testing.T) {
	for _, n := range []int{0, 1, 2, 3, 10} {
		d := New()
		d.Full(n)
		for i := range n {
			is(t, fmt.Sprintf("P6.1: Full(%d): Append %d", n, i), d.Append("a", []byte("1")), api.ErrNoSpace)
			lists(t, "P6.4: a refused Append made a file", d)
			is(t, "P6.1: Append of nothing is not refused", d.Append("b", nil), api.OK)
			is(t, "P6.1: nor takes a refusal", d.Append("b", []byte{}), api.OK)
			is(t, "P6.1: Delete", d.Delete("b"), api.OK)
			crashed(d, i)
		}
		is(t, fmt.Sprintf("P6.1: Full(%d): the Append behind", n), d.Append("a", []byte("1")), api.OK)
		holds(t, "P6.1: behind Full", d, "a", "1")
	}
	for _, n := range []int{0, -1, -5, math.MinInt} {
		d := New()
		d.Full(3)
		d.Full(n)
		is(t, fmt.Sprintf("P6.1: Full(%d) behind Full(3)", n), d.Append("a", []byte("1")), api.OK)
	}
	d := New()
	d.Full(1)
	d.Full(2)
	is(t, "P6.1: Full is set, not added", d.Append("a", []byte("1")), api.ErrNoSpace)
	d.Crash(0)
	is(t, "P6.1: with the power off", d.Append("a", []byte("1")), api.ErrDown)
	d.Up()
	is(t, "P6.1: refusals stay over a crash", d.Append("a", []byte("1")), api.ErrNoSpace)
	is(t, "P6.1: and are no more", d.Append("a", []byte("1")), api.OK)
	d.Crash(0)
	d.Full(1)
	d.Up()
	is(t, "P6.1: Full with the power off", d.Append("a", []byte("1")), api.ErrNoSpace)
	d.Full(math.MaxInt)
	for range 100 {
		is(t, "P6.1: Full with the greatest number", d.Append("a", []byte("1")), api.ErrNoSpace)
	}
}

// Full is no counted call, nor is Down, Crash, Up or Arm.
func TestWhatCounts(t *testing.T) {
	counted := []call{{kind: doAppend, name: "b", b: "1"}, {kind: doAppend, name: "b"}, {kind: doAppend}, {kind: doSync, name: "a"}, {kind: doSync}, {kind: doRead, name: "a"}, {kind: doRead},
		{kind: doSize, name: "a"}, {kind: doSize}, {kind: doCut, name: "a", n: 1}, {kind: doCut, name: "a", n: 99}, {kind: doCut}, {kind: doDelete, name: "a"}, {kind: doDelete},
		{kind: doRename, name: "a", to: "b"}, {kind: doRename, name: "a", to: "a"}, {kind: doRename, name: "a"}, {kind: doRename, to: "a"}, {kind: doList}}
	for _, c := range counted {
		for n := range 4 {
			d := New()
			d.Append("a", []byte("xy"))
			d.Sync("a")
			d.Arm(n, 0)
			for i := range 6 {
				if off := on(t, d, c).err == api.ErrDown; off != (i >= n) || off != d.Down() {
					t.Errorf("P6.3: armed with %d: %v as call %d: power off: %v, Down() = %v", n, c, i, off, d.Down())
				}
			}
		}
	}
	for n := range 4 {
		d := manyFiles(t, 16)
		d.Full(99)
		d.Arm(n, 0)
		for i := range 6 {
			name, want := "a", api.ErrNoSpace
			if i%2 == 1 {
				name, want = "z", api.ErrLong
			}
			if i >= n {
				want = api.ErrDown
			}
			is(t, fmt.Sprintf("P6.3: armed with %d, without room: Append %d", n, i), d.Append(name, []byte("1")), want)
		}
	}
	d := New()
	d.Append("a", []byte("xyz"))
	d.Arm(1, 1)
	for range 10 {
		d.Full(1)
		d.Full(0)
		if d.Down() {
			t.Fatal("P6.3: Full or Down is counted")
		}
	}
	is(t, "P6.3: the call ahead of the crash", d.Append("a", nil), api.OK)
	is(t, "P6.3: the call at the crash", d.Sync("a"), api.ErrDown)
	d.Up()
	holds(t, "P6.3: behind it", d, "a", "x")
}

func TestArmedAnew(t *testing.T) {
	for _, n := range []int{-1, -2, math.MinInt} {
		d := New()
		d.Append("a", []byte("xyz"))
		d.Arm(0, 1)
		d.Arm(n, 1)
		for range 5 {
			holds(t, fmt.Sprintf("P6.1: Arm(%d, 1)", n), d, "a", "xyz")
		}
	}
	d := New()
	d.Append("a", []byte("abcdef"))
	d.Arm(5, 1)
	d.Arm(0, 2)
	is(t, "P6.1: armed anew, with less", d.Sync("a"), api.ErrDown)
	d.Up()
	holds(t, "P6.1: armed anew, with less", d, "a", "ab")
	d.Append("a", []byte("cdef"))
	d.Arm(0, 1)
	d.Arm(2, 3)
	holds(t, "P6.1: armed anew, with more", d, "a", "abcdef")
	is(t, "P6.1: armed anew, with more", d.Sync("a"), api.ErrDown)
	d.Up()
	holds(t, "P6.1: armed anew, with more", d, "a", "abcde")

	d.Arm(0, 0)
	d.Up()
	holds(t, "P6.1: Up disarms", d, "a", "abcde")
	d.Append("a", []byte("f"))
	d.Arm(2, 0)
	d.Crash(9)
	d.Up()
	for range 5 {
		holds(t, "P6.1: Crash disarms", d, "a", "abcdef")
	}
	d.Arm(0, 0)
	is(t, "P6.1: armed", d.Sync("a"), api.ErrDown)
	d.Up()
	holds(t, "P6.1: the crash of an armed disk disarms", d, "a", "abcdef")
	d.Crash(0)
	d.Arm(0, 0)
	is(t, "P6.1: armed with the power off", d.Sync("a"), api.ErrDown)
	d.Up()
	holds(t, "P6.1: Up disarms one that was armed with the power off", d, "a", "abcdef")
	d.Arm(math.MaxInt, 0)
	for range 100 {
		holds(t, "P6.1: armed with the greatest number", d, "a", "abcdef")
	}
}

// Crash with every keep around the lengths of three tails, by Crash and by Arm.
func TestCrash(t *testing.T) {
	keeps := []int{math.MinInt, -2, -1, 0, 1, 2, 3, 4, 5, 6, 100, math.MaxInt - 1, math.MaxInt}
	for _, keep := range keeps {
		for _, armed := range []bool{false, true} {
			d := New()
			d.Append("some", []byte("abc"))
			d.Sync("some")
			d.Append("some", []byte("defg"))
			d.Append("all", []byte("hij"))
			d.Sync("all")
			d.Append("none", []byte("klmno"))
			d.Append("empty", nil)
			if armed {
				d.Arm(0, keep)
				is(t, "P6.3: armed with 0", d.Sync("some"), api.ErrDown)
			} else {
				d.Crash(keep)
			}
			if !d.Down() {
				t.Fatalf("P6.1: Crash(%d): the power is on", keep)
			}
			d.Crash(0)
			d.Up()
			what := fmt.Sprintf("P6.2: Crash(%d)", keep)
			holds(t, what, d, "some", "abc"+"defg"[:min(max(keep, 0), 4)])
			holds(t, what, d, "all", "hij")
			holds(t, what, d, "none", "klmno"[:min(max(keep, 0), 5)])
			holds(t, what, d, "empty", "")
			lists(t, what, d, "all", "empty", "none", "some")
			before := files(t, d)
			crashed(d, -1)
			if after := files(t, d); !sameFiles(before, after) {
				t.Errorf("%s: what stays isn't synced: %q, then %q", what, before, after)
			}
		}
	}
}

// A crash with the power off changes nothing, whatever its keep.
func TestCrashTwice(t *testing.T) {
	d := New()
	d.Append("a", []byte("abcd"))
	d.Crash(3)
	for _, keep := range []int{0, -1, 1, 9} {
		d.Crash(keep)
		if !d.Down() {
			t.Errorf("P6.1: Crash(%d) with the power off turns it on", keep)
		}
	}
	d.Up()
	d.Up()
	holds(t, "P6.1: Crash with the power off", d, "a", "abc")
}

func sameFiles(a, b map[string]string) bool { return begins(a, b) && begins(b, a) }

// begins tells whether a has the files of b, each with a beginning of its bytes.
func begins(a, b map[string]string) bool {
	for name, s := range b {
		if have, ok := a[name]; !ok || !strings.HasPrefix(s, have) {
			return false
		}
	}
	return len(a) == len(b)
}

// What crashes leave of one state, held against each other.
func TestSyncedLasts(t *testing.T) {
	g := rand.New(rand.NewSource(64))
	for range 400 {
		names := pool(g)
		script := append(randomScript(g, names, 60), call{kind: doUp})
		script = append(script, without(randomScript(g, names, 25))...)
		whole := files(t, run(t, script))
		var lower map[string]string
		for _, keep := range []int{-1, 0, 1, 2, 3, 5, 9, math.MaxInt} {
			d := run(t, script)
			d.Crash(keep)
			left := files(t, d)
			if !begins(left, whole) {
				t.Fatalf("P6.2: behind Crash(%d): %q, of %q", keep, left, whole)
			}
			if lower != nil && !begins(lower, left) {
				t.Fatalf("P6.2: Crash(%d) leaves %q, a lesser one %q", keep, left, lower)
			}
			lower = left
		}
		if !sameFiles(lower, whole) {
			t.Fatalf("P6.2: with the greatest keep %q, of %q", lower, whole)
		}
		for name := range whole {
			script = append(script, call{kind: doSync, name: name})
		}
		for _, keep := range []int{-1, 0, 2} {
			a, b := run(t, script), run(t, script)
			crashed(b, keep)
			same(t, "P6.2: a crash of what is synced", a, b, append(randomScript(g, names, 30), told(names)...))
		}
	}
}

// Bytes that were synced are there, behind whatever was appended, renamed or cut behind them.
func TestSyncedThenMore(t *testing.T) {
	for keep := range 4 {
		d := New()
		d.Append("a", []byte("ab"))
		d.Sync("a")
		d.Append("a", []byte("cd"))
		d.Append("b", []byte("x"))
		is(t, "P6.2: Sync of another", d.Sync("b"), api.OK)
		d.Append("b", nil)
		crashed(d, keep)
		holds(t, "P6.2: a file beside one that was synced", d, "a", "ab"+"cd"[:min(keep, 2)])
		holds(t, "P6.2: Append of nothing", d, "b", "x")
	}
}

func TestCut(t *testing.T) {
	for n := -2; n <= 9; n++ {
		for keep := range 5 {
			d := New()
			d.Append("a", []byte("abcd"))
			d.Sync("a")
			d.Append("a", []byte("efg"))
			what := fmt.Sprintf("P6.1: Cut(%d), Crash(%d)", n, keep)
			left, synced := 7, 4
			if n < 0 || n > 7 {
				is(t, what, d.Cut("a", n), api.ErrArg)
			} else {
				is(t, what, d.Cut("a", n), api.OK)
				left, synced = n, min(n, 4)
			}
			holds(t, what, d, "a", "abcdefg"[:left])
			crashed(d, keep)
			stay := min(left, synced+keep)
			holds(t, what, d, "a", "abcdefg"[:stay])
			d.Append("a", []byte("XYZ"))
			holds(t, what+", Append", d, "a", "abcdefg"[:stay]+"XYZ")
			crashed(d, 1)
			holds(t, what+", Append, Crash(1)", d, "a", "abcdefg"[:stay]+"X")
		}
	}
	for _, n := range []int{math.MinInt, math.MaxInt, -1, 1} {
		d := New()
		d.Append("a", nil)
		is(t, fmt.Sprintf("P6.1: Cut(%d) of an empty file", n), d.Cut("a", n), api.ErrArg)
		is(t, "P6.1: Cut(0) of an empty file", d.Cut("a", 0), api.OK)
		holds(t, "P6.1: Cut of an empty file", d, "a", "")
	}
}

// What was cut off, or taken by a crash, doesn't come again, and what is appended then isn't synced.
func TestCutThenAppend(t *testing.T) {
	d := New()
	d.Append("a", []byte("abcdef"))
	d.Sync("a")
	d.Cut("a", 2)
	d.Append("a", []byte("XY"))
	holds(t, "P6.1: Append behind Cut", d, "a", "abXY")
	crashed(d, 0)
	holds(t, "P6.1: what was appended behind a Cut isn't synced", d, "a", "ab")
	is(t, "P6.1: Cut above the size", d.Cut("a", 3), api.ErrArg)
	d.Cut("a", 0)
	crashed(d, 99)
	holds(t, "P6.1: Cut lasts", d, "a", "")
	lists(t, "P6.1: Cut to nothing leaves the file", d, "a")
}

func TestDelete(t *testing.T) {
	d := New()
	d.Append("a", []byte("abc"))
	d.Sync("a")
	d.Append("b", []byte("x"))
	is(t, "P6.1: Delete", d.Delete("a"), api.OK)
	is(t, "P6.1: Delete again", d.Delete("a"), api.ErrFile)
	lists(t, "P6.1: behind Delete", d, "b")
	crashed(d, 99)
	lists(t, "P6.1: Delete lasts", d, "b")
	is(t, "P6.1: Sync behind Delete", d.Sync("a"), api.ErrFile)
	d.Append("a", []byte("new"))
	holds(t, "P6.1: made again", d, "a", "new")
	crashed(d, 1)
	holds(t, "P6.1: made again, nothing of it is synced", d, "a", "n")
}

func TestRename(t *testing.T) {
	d := New()
	d.Append("a", []byte("ab"))
	d.Sync("a")
	d.Append("a", []byte("cd"))
	d.Append("b", []byte("old"))
	d.Sync("b")
	is(t, "P6.1: Rename to itself", d.Rename("a", "a"), api.OK)
	holds(t, "P6.1: Rename to itself", d, "a", "abcd")
	lists(t, "P6.1: Rename to itself", d, "a", "b")
	is(t, "P6.1: Rename of none to itself", d.Rename("z", "z"), api.ErrFile)
	is(t, "P6.1: Rename of none over a file", d.Rename("z", "b"), api.ErrFile)
	is(t, "P6.1: Rename over another", d.Rename("a", "b"), api.OK)
	lists(t, "P6.1: Rename over another", d, "b")
	holds(t, "P6.1: Rename over another", d, "b", "abcd")
	is(t, "P6.1: the old name", d.Sync("a"), api.ErrFile)
	is(t, "P6.1: Rename again", d.Rename("a", "b"), api.ErrFile)
	crashed(d, 1)
	lists(t, "P6.1: Rename lasts", d, "b")
	holds(t, "P6.1: what was synced goes with the file", d, "b", "abc")
	d.Append("a", []byte("1"))
	d.Append("b", []byte("2"))
	holds(t, "P6.1: the old name's new file", d, "a", "1")
	holds(t, "P6.1: the renamed file grows", d, "b", "abc2")
	is(t, "P6.1: Rename of what isn't synced over what is", d.Rename("a", "b"), api.OK)
	crashed(d, 0)
	holds(t, "P6.1: Rename of what isn't synced over what is", d, "b", "")
}

// armedLike holds a disk that is armed against one that crashes by hand.
func armedLike(t *testing.T, g *rand.Rand, n, keep int) {
	t.Helper()
	names := pool(g)
	ahead := randomScript(g, names, 40)
	if g.Intn(3) > 0 {
		ahead = append(ahead, call{kind: doUp})
	}
	a, b := run(t, ahead), run(t, ahead)
	a.Arm(n, keep)
	b.Arm(-1, 0)
	counted := 0
	for _, c := range without(randomScript(g, names, 40)) {
		if c.counted() {
			if counted == n {
				b.Crash(keep)
			}
			counted++
		}
		if x, y := on(t, a, c), on(t, b, c); x != y {
			t.Fatalf("P6.3: armed with %d and %d: %v at call %d: %+v, by Crash %+v", n, keep, c, counted, x, y)
		}
	}
	if counted <= n {
		return
	}
	same(t, "P6.3: armed, and by Crash, later", a, b, append(randomScript(g, names, 20), told(names)...))
}

func TestArmedLikeCrash(t *testing.T) {
	g := rand.New(rand.NewSource(65))
	for n := range 25 {
		for _, keep := range []int{-1, 0, 1, 2, 5, math.MaxInt} {
			for range 4 {
				armedLike(t, g, n, keep)
			}
		}
	}
}

// A script that ends with r refusals and a disk armed with n, and a call that is refused, against the script
// that ends with what the call may have taken.
func refusedLike(t *testing.T, g *rand.Rand, n int) {
	t.Helper()
	names := pool(g)
	ahead := randomScript(g, names, 60)
	if g.Intn(4) > 0 {
		ahead = append(ahead, call{kind: doUp})
	}
	r, keep := g.Intn(3), g.Intn(4)
	a, b := run(t, ahead), run(t, ahead)
	off := a.Down()
	a.Full(r)
	a.Arm(n, keep)
	c := randomCall(g, names)
	err := on(t, a, c).err
	if err == api.OK {
		return
	}
	if err == api.ErrNoSpace {
		r--
	}
	b.Full(r)
	b.Arm(max(n-1, -1), keep)
	if n == 0 && !off {
		b.Crash(keep)
	}
	same(t, "P6.4: behind "+c.String()+", refused, and without it", a, b, append(told(names), randomScript(g, names, 20)...))
}

func TestRefusedIsUnchanged(t *testing.T) {
	g := rand.New(rand.NewSource(66))
	for n := -1; n < 8; n++ {
		for range 500 {
			refusedLike(t, g, n)
		}
	}
}

// A file laid under another name, synced, and renamed over the old one, with the power going off at every call.
func TestRenameIsWhole(t *testing.T) {
	const old, fresh = "what was there", "the new one, longer than the old one"
	for _, over := range []bool{false, true} {
		for n := range 9 {
			for keep := -1; keep <= len(fresh)+1; keep++ {
				d := New()
				if over {
					d.Append("snap", []byte(old))
					d.Sync("snap")
				}
				d.Arm(n, keep)
				d.Append("snap.tmp", nil)
				d.Append("snap.tmp", []byte(fresh[:9]))
				d.Append("snap.tmp", []byte(fresh[9:]))
				synced := d.Sync("snap.tmp") == api.OK
				d.Append("other", []byte("x"))
				renamed := d.Rename("snap.tmp", "snap") == api.OK
				d.Read("snap")
				d.Crash(keep)
				wholeAfter(t, fmt.Sprintf("P6.5: call %d, %d stay, over another: %v", n, keep, over), d, over, synced, renamed, old, fresh)
			}
		}
	}
}

func wholeAfter(t *testing.T, what string, d *Disk, over, synced, renamed bool, old, fresh string) {
	t.Helper()
	all := files(t, d)
	laid, isLaid := all["snap.tmp"]
	place, isPlace := all["snap"]
	switch {
	case renamed:
		if isLaid || place != fresh {
			t.Errorf("%s: renamed: %q", what, all)
		}
	case isPlace != over || over && place != old:
		t.Errorf("%s: the old one isn't there: %q", what, all)
	case synced && laid != fresh:
		t.Errorf("%s: the new one isn't whole: %q", what, all)
	case !strings.HasPrefix(fresh, laid):
		t.Errorf("%s: the new one has what was not laid: %q", what, all)
	}
}

// Answers that are held while the disk goes on stay as they were, and share nothing with one another.
func TestAnswersAreNewMemory(t *testing.T) {
	d := New()
	d.Append("a", []byte("abc"))
	d.Append("b", nil)
	first, _ := d.Read("a")
	second, _ := d.Read("a")
	names, _ := d.List()
	more, _ := d.List()
	d.Append("a", []byte("def"))
	d.Cut("a", 1)
	d.Append("a", []byte("XYZ"))
	d.Rename("b", "c")
	d.Delete("c")
	if string(first) != "abc" || string(second) != "abc" || !slices.Equal(names, []string{"a", "b"}) {
		t.Errorf("memory: answers changed: %q, %q, %q", first, second, names)
	}
	spoil(first, '!')
	spoil(names, "spoilt")
	if string(second) != "abc" || !slices.Equal(more, []string{"a", "b"}) {
		t.Errorf("memory: answers share: %q, %q", second, more)
	}
	holds(t, "memory: a spoilt answer", d, "a", "aXYZ")
	lists(t, "memory: a spoilt answer", d, "a")
}

// What a file is told to have is handed in again, also to itself.
func TestAppendOfAnAnswer(t *testing.T) {
	d := New()
	d.Append("a", []byte("ab"))
	b, _ := d.Read("a")
	d.Append("a", b)
	d.Append("b", b)
	d.Append("b", b[:1])
	spoil(b, '!')
	holds(t, "memory: Append of an answer", d, "a", "abab")
	holds(t, "memory: Append of an answer", d, "b", "aba")
	parts := roomy("abcdef")
	d.Append("p", parts[:2])
	d.Append("q", parts[2:4])
	d.Append("p", parts[4:])
	if !isRoomy(parts, "abcdef") {
		t.Errorf("memory: Append changed what was handed in: %q", parts[:cap(parts)])
	}
	spoil(parts, '!')
	holds(t, "memory: pieces of one list", d, "p", "abef")
	holds(t, "memory: pieces of one list", d, "q", "cd")
}

func heap() uint64 {
	var m runtime.MemStats
	runtime.GC()
	runtime.ReadMemStats(&m)
	return m.HeapAlloc
}

// A name that is a piece of a long text is kept without the text.
func TestNamesAreNotKept(t *testing.T) {
	const size = 64 << 20
	before := heap()
	d := New()
	d.Append(strings.Repeat("a", size)[:3], nil)
	d.Append("b", nil)
	d.Rename("b", strings.Repeat("c", size)[:3])
	d.Append(strings.Repeat("a", size)[:3], []byte("1"))
	d.Rename("aaa", strings.Repeat("a", size)[:3])
	if after := heap(); after > before+size/2 {
		t.Errorf("memory: what was handed in is kept: %d bytes more", after-before)
	}
	lists(t, "memory: names that were pieces", d, "aaa", "ccc")
}

// Many small pieces and some great ones: a file's bytes are all there.
func TestLongFiles(t *testing.T) {
	d := New()
	var want []byte
	for i := range 100000 {
		b := []byte{byte(i), byte(i >> 8), byte(i >> 16)}
		d.Append("a", b)
		want = append(want, b...)
	}
	great := bytes.Repeat([]byte("0123456789abcdef"), 1<<16)
	for range 8 {
		d.Append("a", great)
		want = append(want, great...)
	}
	d.Sync("a")
	d.Append("a", great)
	if n, err := d.Size("a"); n != len(want)+len(great) || err != api.OK {
		t.Errorf("P6.1: a long file: Size = %d, %d", n, int(err))
	}
	crashed(d, 5)
	if b, err := d.Read("a"); string(b) != string(want)+"01234" || err != api.OK {
		t.Errorf("P6.2: a long file: %d bytes, %d, want %d", len(b), int(err), len(want)+5)
	}
}
