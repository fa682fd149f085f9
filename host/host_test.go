package host_test

import (
	"fmt"
	"slices"
	"testing"

	"rampart/api"
	"rampart/disk"
	"rampart/host"
	"rampart/snap"
	"rampart/store"
)

const (
	one      = api.ID(65536)
	two      = api.ID(131072)
	maxFiles = 16
	maxTick  = int64(1) << 40
)

var alone = api.Config{Parts: 1, Clients: 1, Retain: 10}

func prepare(id api.ID, value string) api.Message {
	return api.Message{Kind: api.MsPrepare, Req: 1, ID: id, Pairs: []api.Pair{{Key: "a", Value: value}}, Keys: []string{"a"}}
}

func commit(id api.ID) api.Message { return api.Message{Kind: api.MsCommit, Req: 2, ID: id} }

// goesBack looks at the kinds of what a message is answered by.
func goesBack(t *testing.T, what string, h *host.Host, m api.Message, kinds ...int) {
	t.Helper()
	var got []int
	for _, back := range h.Handle(m) {
		got = append(got, back.Kind)
	}
	if !slices.Equal(got, kinds) {
		t.Fatalf("%s: back go the kinds %v, want %v", what, got, kinds)
	}
}

// isUp looks at a host that is up, at how many versions and lasts it has, and at its tick.
func isUp(t *testing.T, what string, h *host.Host, kept, lasts int, now int64) {
	t.Helper()
	if !h.Up() || len(h.Kept()) != kept || len(h.Lasts()) != lasts || h.Now() != now {
		t.Fatalf("%s: up %t, %d versions, %d lasts, now %d", what, h.Up(), len(h.Kept()), len(h.Lasts()), h.Now())
	}
}

// isDown looks at a host that is down: it tells nothing, does nothing, and its disk's power is off.
func isDown(t *testing.T, what string, h *host.Host, d *disk.Disk) {
	t.Helper()
	if h.Up() || !d.Down() {
		t.Fatalf("%s: up is %t, the disk's power is off: %t", what, h.Up(), d.Down())
	}
	if h.Now() != 0 || len(h.Kept())+len(h.Lasts()) > 0 || len(h.Handle(prepare(one, "1"))) > 0 || h.Tick() || h.Crash(1<<20) || h.Up() || !d.Down() {
		t.Fatalf("%s: it is down, and does something", what)
	}
}

func does(t *testing.T, what string, did bool) {
	t.Helper()
	if !did {
		t.Fatalf("%s did not happen", what)
	}
}

func TestUpAndDown(t *testing.T) {
	d := disk.New()
	h := host.New(d, 0, alone)
	isUp(t, "new", h, 0, 0, 0)
	goesBack(t, "P22.1", h, prepare(one, "1"), api.MsPrepared)
	goesBack(t, "P22.1", h, commit(one), api.MsCommitted)
	does(t, "a tick", h.Tick())
	isUp(t, "a tick", h, 1, 1, 1)
	if h.Restart() {
		t.Fatal("P22.1: a restart of one that is up happened")
	}
	isUp(t, "no restart", h, 1, 1, 1)
	does(t, "a crash", h.Crash(0))
	isDown(t, "a crash", h, d)
	does(t, "a restart", h.Restart())
	isUp(t, "a restart", h, 1, 1, 0)
}

// A disk that holds something, and one whose power is off.
func TestNewOnADisk(t *testing.T) {
	d := disk.New()
	goesBack(t, "P22.1", host.New(d, 0, alone), prepare(one, "1"), api.MsPrepared)
	d.Crash(0)
	isUp(t, "on a disk that was off", host.New(d, 0, alone), 1, 0, 0)
	d.Append("snap", []byte("x"))
	isDown(t, "on a disk that can't be read", host.New(d, 0, alone), d)
}

// Off ahead of each call of the disk, with few or many bytes staying.
func TestPowerInHandle(t *testing.T) {
	for n := range 3 {
		for _, keep := range []int{0, 1 << 20} {
			what := fmt.Sprintf("armed with %d, %d bytes stay", n, keep)
			d := disk.New()
			h := host.New(d, 0, alone)
			h.Arm(n, keep)
			if n == 2 {
				goesBack(t, what, h, prepare(one, "1"), api.MsPrepared)
				isUp(t, what, h, 1, 0, 0)
				continue
			}
			goesBack(t, what, h, prepare(one, "1"))
			isDown(t, what, h, d)
			does(t, "a restart", h.Restart())
			isUp(t, what, h, n*min(keep, 1), 0, 0)
		}
	}
}

// The bytes that stay are those of the crash.
func TestKeep(t *testing.T) {
	for keep := range 12 {
		d := disk.New()
		h := host.New(d, 0, alone)
		d.Append("other", []byte("ten bytes!"))
		does(t, "a crash", h.Crash(keep))
		d.Up()
		if n, err := d.Size("other"); n != min(keep, 10) || err != api.OK {
			t.Fatalf("P22.1: behind Crash(%d) there are %d bytes, %d", keep, n, int(err))
		}
	}
}

func TestFull(t *testing.T) {
	d := disk.New()
	h := host.New(d, 0, alone)
	h.Full(1)
	goesBack(t, "P22.1", h, prepare(one, "1"), api.MsNack)
	goesBack(t, "P22.1", h, prepare(one, "1"), api.MsPrepared)
	does(t, "a crash", h.Crash(0))
	h.Full(1)
	does(t, "a restart", h.Restart())
	goesBack(t, "P22.1: full while it was down", h, commit(one), api.MsNack)
	goesBack(t, "P22.1", h, commit(one), api.MsCommitted)
}

// The disk's Up disarms it: a restart goes well, whatever was told to the disk ahead of it.
func TestArmedDown(t *testing.T) {
	for n := range 6 {
		d := disk.New()
		h := host.New(d, 0, alone)
		goesBack(t, "P22.1", h, prepare(one, "1"), api.MsPrepared)
		does(t, "a crash", h.Crash(0))
		h.Arm(n, 0)
		does(t, "a restart", h.Restart())
		isUp(t, "armed while it was down", h, 1, 0, 0)
		goesBack(t, "P22.1", h, commit(one), api.MsCommitted)
	}
}

// A restart that is refused: the power goes off again. What is mended comes back.
func TestRefusedRestart(t *testing.T) {
	d := disk.New()
	h := host.New(d, 0, alone)
	goesBack(t, "P22.1", h, prepare(one, "1"), api.MsPrepared)
	does(t, "a crash", h.Crash(0))
	d.Up()
	d.Append("snap", []byte("no snapshot"))
	d.Sync("snap")
	d.Append("unsynced", []byte("x"))
	d.Crash(1 << 20)
	for range 3 {
		does(t, "a refused restart", h.Restart())
		isDown(t, "a refused restart", h, d)
	}
	d.Up()
	d.Delete("snap")
	d.Crash(0)
	does(t, "a restart", h.Restart())
	isUp(t, "a mended disk", h, 1, 0, 0)
}

// crowd lays files until the disk has as many as it may.
func crowd(d *disk.Disk) {
	for i := 0; ; i++ {
		if names, _ := d.List(); len(names) == maxFiles {
			return
		}
		d.Append(fmt.Sprint("file ", i), nil)
	}
}

// An error that is no ErrDown goes nowhere: the partition stays up.
func TestRefusedHandle(t *testing.T) {
	d := disk.New()
	h := host.New(d, 0, alone)
	crowd(d)
	goesBack(t, "P22.1: no room for a log's file", h, prepare(one, "1"))
	isUp(t, "no room for a log's file", h, 0, 0, 0)
	wrong := api.Message{Kind: api.MsPrepared, Req: 1, ID: one}
	goesBack(t, "P22.1: what may not be", h, wrong)
	isUp(t, "what may not be", h, 0, 0, 0)
	if d.Down() {
		t.Fatal("P22.1: the power is off")
	}
}

// Any other error of a tick: the partition is down, and so is its disk's power.
func TestRefusedTick(t *testing.T) {
	config := alone
	config.Compact = 1
	d := disk.New()
	h := host.New(d, 0, config)
	goesBack(t, "P22.1", h, prepare(one, "1"), api.MsPrepared)
	crowd(d)
	does(t, "a tick that is refused", h.Tick())
	isDown(t, "a tick that is refused", h, d)
	does(t, "a restart", h.Restart())
	isUp(t, "a restart", h, 1, 0, 0)
	does(t, "a tick", h.Tick())
	isUp(t, "a tick", h, 1, 0, 1)
}

func TestPowerInTick(t *testing.T) {
	config := alone
	config.Compact = 1
	for n := range 8 {
		for _, keep := range []int{0, 20, 1 << 20} {
			what := fmt.Sprintf("armed with %d, %d bytes stay", n, keep)
			d := disk.New()
			h := host.New(d, 0, config)
			goesBack(t, what, h, prepare(one, "1"), api.MsPrepared)
			goesBack(t, what, h, commit(one), api.MsCommitted)
			h.Arm(n, keep)
			does(t, "a tick", h.Tick())
			if n >= 6 {
				isUp(t, what, h, 1, 1, 1)
				continue
			}
			isDown(t, what, h, d)
			does(t, "a restart", h.Restart())
			isUp(t, what, h, 1, 1, 0)
		}
	}
}

// A tick that answers ErrArg did not happen: of the last generation there is no compaction.
func TestNoTick(t *testing.T) {
	d := disk.New()
	s := store.New()
	s.Put(one, []api.Pair{{Key: "a", Value: "1"}}, []string{"a"}, 0)
	b, err := snap.Build(maxTick, s)
	if err != api.OK {
		t.Fatal(err)
	}
	d.Append("snap", b)
	d.Sync("snap")
	config := alone
	config.Compact = 1
	h := host.New(d, 0, config)
	goesBack(t, "P22.1", h, prepare(two, "2"), api.MsPrepared)
	if h.Tick() {
		t.Fatal("P22.1: a tick that is refused happened")
	}
	if !h.Up() || d.Down() || len(h.Kept()) != 2 {
		t.Fatal("P22.1: behind a tick that is refused it is down")
	}
}
