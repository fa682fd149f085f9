// Package host is a partition with its disk: up, or down from a crash until its restart.
package host

import (
	"rampart/api"
	"rampart/disk"
	"rampart/part"
)

// Host is a partition's disk, and the partition while it is up.
type Host struct {
	disk   *disk.Disk
	index  int
	config api.Config
	part   *part.Part // nil: it is down
}

// New has partition number index on a disk that is on from then on: up, unless its files can't be opened.
func New(d *disk.Disk, index int, c api.Config) *Host {
	h := &Host{disk: d, index: index, config: c}
	h.Restart()
	return h
}

// Up tells whether it is up.
func (h *Host) Up() bool { return h.part != nil }

// Handle takes a message: what goes back. Where it is down nothing does.
func (h *Host) Handle(m api.Message) []api.Message {
	if !h.Up() {
		return nil
	}
	back, err := h.part.Handle(m)
	if err == api.ErrDown {
		h.off(0)
	}
	return back
}

// Tick lets a tick go by; false: none did.
func (h *Host) Tick() bool {
	if !h.Up() {
		return false
	}
	switch h.part.Tick() {
	case api.OK:
	case api.ErrArg:
		return false
	default:
		// Which of its files count it knows no more: it must read them anew.
		h.off(0)
	}
	return true
}

// Crash turns the power off, with keep bytes of the unsynced tails staying; false: it was down already.
func (h *Host) Crash(keep int) bool {
	if !h.Up() {
		return false
	}
	h.off(keep)
	return true
}

// off turns the power off, if it is on: the partition is down either way.
func (h *Host) off(keep int) {
	h.disk.Crash(keep)
	h.part = nil
}

// Restart turns the power on, and reads the files; false: it was up already. What can't be read stays down.
func (h *Host) Restart() bool {
	if h.Up() {
		return false
	}
	h.disk.Up()
	p, err := part.Open(h.disk, h.index, h.config)
	if err != api.OK {
		h.off(0)
		return true
	}
	h.part = p
	return true
}

// Full lets the disk refuse the next n appends, Arm lets its power go off ahead of its call number n from now on; of one that is down too.
func (h *Host) Full(n int)      { h.disk.Full(n) }
func (h *Host) Arm(n, keep int) { h.disk.Arm(n, keep) }

// Now is the partition's tick; 0 where it is down.
func (h *Host) Now() int64 {
	if !h.Up() {
		return 0
	}
	return h.part.Now()
}

// Kept are its versions, Lasts its last committed writes; none where it is down.
func (h *Host) Kept() []api.Kept {
	if !h.Up() {
		return nil
	}
	return h.part.Kept()
}

func (h *Host) Lasts() []api.Last {
	if !h.Up() {
		return nil
	}
	return h.part.Lasts()
}
