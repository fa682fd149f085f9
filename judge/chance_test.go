package judge_test

import (
	"math"
	"math/rand"
	"slices"

	"rampart/api"
)

// chance makes histories.
type chance struct{ *rand.Rand }

func newChance(seed int) chance { return chance{rand.New(rand.NewSource(int64(seed)))} }

func pick[T any](c chance, l ...T) T { return l[c.Intn(len(l))] }

func (c chance) oneIn(n int) bool { return c.Intn(n) == 0 }

func (c chance) key() string { return pick(c, "a", "b", "c", "", "a\x00", "\xff") }

func (c chance) keys() []string {
	var l []string
	for range c.Intn(5) {
		l = append(l, c.key())
	}
	return l
}

func (c chance) pairs() []api.Pair {
	var l []api.Pair
	for range c.Intn(5) {
		l = append(l, api.Pair{Key: c.key(), Value: pick(c, "1", "2", "", "12")})
	}
	return l
}

// maker makes a proper history, event by event.
type maker struct {
	chance
	h       []api.Event
	txns    [16]int
	seqs    [16]uint64
	clients int
}

func newMaker(seed int) *maker {
	c := newChance(seed)
	return &maker{chance: c, clients: 1 + c.Intn(4)}
}

// someone is a client whose next request has that Txn.
func (m *maker) someone() (client, txn int) {
	client = m.Intn(m.clients)
	m.txns[client]++
	return client, m.txns[client]
}

func (m *maker) add(e ...api.Event) { m.h = append(m.h, e...) }

// asksToWrite adds a write, refused ones with their answer; at: its place, -1: it was refused.
func (m *maker) asksToWrite() (at int) {
	client, txn := m.someone()
	if m.oneIn(10) {
		m.add(write(client, txn, 0, m.pairs()...), answer(client, txn, pick(m.chance, rsInvalid, rsExhausted), 0))
		return -1
	}
	m.seqs[client] += 1 + uint64(m.Intn(2))
	m.add(write(client, txn, api.ID(m.seqs[client]*65536+uint64(client)), m.pairs()...))
	return len(m.h) - 1
}

// asksToRead adds a read, refused ones with their answer; at: its place, -1: it was refused.
func (m *maker) asksToRead() (at int) {
	client, txn := m.someone()
	m.add(read(client, txn, m.keys()...))
	if m.oneIn(10) {
		m.add(answer(client, txn, rsInvalid, 0))
		return -1
	}
	return len(m.h) - 1
}

// any is a proper history in which much is wrong.
func (m *maker) any(steps int) []api.Event {
	var pending []int
	for range steps {
		if len(pending) > 0 && m.oneIn(2) {
			at := m.Intn(len(pending))
			m.answers(m.h[pending[at]])
			pending = slices.Delete(pending, at, at+1)
			continue
		}
		at := m.asks()
		if at >= 0 {
			pending = append(pending, at)
		}
	}
	return m.h
}

func (m *maker) asks() int {
	if m.oneIn(2) {
		return m.asksToRead()
	}
	return m.asksToWrite()
}

func (m *maker) answers(e api.Event) {
	if e.Kind == evWrite {
		m.add(answer(e.Client, e.Txn, pick(m.chance, rsOK, rsOK, rsAborted, rsUnknown), e.ID))
		return
	}
	if m.oneIn(5) {
		m.add(answer(e.Client, e.Txn, pick(m.chance, rsStale, rsAborted), 0))
		return
	}
	a := answer(e.Client, e.Txn, rsOK, 0)
	for _, key := range e.Keys {
		a.Answer.Versions = append(a.Answer.Versions, m.version(key))
	}
	m.add(a)
}

// version is one that may be told for a key: mostly a write's there, or one much like it.
func (m *maker) version(key string) api.Version {
	var writes []api.Event
	for _, e := range m.h {
		if isWrite(e) && (wrote(e, key) || m.oneIn(4)) {
			writes = append(writes, e)
		}
	}
	v := api.Version{Key: key}
	if len(writes) == 0 || m.oneIn(6) {
		return v
	}
	w := pick(m.chance, writes...)
	v.ID, v.Keys = w.ID, keysOf(w)
	for _, p := range w.Pairs {
		if p.Key == key && (v.Value == "" || m.oneIn(2)) {
			v.Value = p.Value
		}
	}
	if m.oneIn(4) {
		v = m.bend(v)
	}
	return v
}

// bend changes a version a little.
func (m *maker) bend(v api.Version) api.Version {
	switch m.Intn(5) {
	case 0:
		v.Value = pick(m.chance, "1", "2", "", "12", "\x00")
	case 1:
		v.Keys = m.keys()
	case 2:
		v.ID = pick(m.chance, v.ID-1, v.ID+1, 1, 65536, 131072, math.MaxUint64)
	case 3:
		v.Keys = append(slices.Clone(v.Keys), m.key())
	case 4:
		m.Shuffle(len(v.Keys), func(i, j int) { v.Keys[i], v.Keys[j] = v.Keys[j], v.Keys[i] })
	}
	return v
}

// serial makes histories in which each write takes place at one moment or never, and each read tells at one moment.
type serial struct {
	*maker
	tops   map[string]api.Version // what each key has
	writes []*running
	reads  []*running
}

// running is a request without an answer; done: it took place, or told.
type running struct {
	asked api.Event
	done  bool
	told  []api.Version
}

// makeSerial is a history of so many steps.
func makeSerial(seed, steps int) []api.Event {
	s := &serial{maker: newMaker(seed), tops: map[string]api.Version{}}
	for range steps {
		switch s.Intn(6) {
		case 0:
			if at := s.asksToWrite(); at >= 0 {
				s.writes = append(s.writes, &running{asked: s.h[at]})
			}
		case 1:
			if at := s.asksToRead(); at >= 0 {
				s.reads = append(s.reads, &running{asked: s.h[at]})
			}
		case 2:
			if len(s.writes) > 0 {
				s.takesPlace(pick(s.chance, s.writes...))
			}
		case 3:
			if len(s.reads) > 0 {
				s.looks(pick(s.chance, s.reads...))
			}
		case 4:
			if n := len(s.writes); n > 0 {
				at := s.Intn(n)
				s.endWrite(s.writes[at])
				s.writes = slices.Delete(s.writes, at, at+1)
			}
		case 5:
			if n := len(s.reads); n > 0 {
				at := s.Intn(n)
				s.endRead(s.reads[at])
				s.reads = slices.Delete(s.reads, at, at+1)
			}
		}
	}
	return s.h
}

func (s *serial) takesPlace(r *running) {
	if r.done {
		return
	}
	r.done = true
	w := r.asked
	for _, i := range s.Perm(len(w.Pairs)) {
		p := w.Pairs[i]
		if s.tops[p.Key].ID < w.ID {
			s.tops[p.Key] = api.Version{Key: p.Key, ID: w.ID, Value: p.Value, Keys: keysOf(w)}
		}
	}
}

func (s *serial) looks(r *running) {
	if r.done {
		return
	}
	r.done = true
	for _, key := range r.asked.Keys {
		v := s.tops[key]
		v.Key = key
		r.told = append(r.told, v)
	}
}

func (s *serial) endWrite(r *running) {
	result := pick(s.chance, rsAborted, rsUnknown)
	if r.done {
		result = pick(s.chance, rsOK, rsOK, rsUnknown)
	}
	s.add(answer(r.asked.Client, r.asked.Txn, result, r.asked.ID))
}

func (s *serial) endRead(r *running) {
	if !r.done || s.oneIn(8) {
		s.add(answer(r.asked.Client, r.asked.Txn, pick(s.chance, rsStale, rsAborted), 0))
		return
	}
	s.add(answer(r.asked.Client, r.asked.Txn, rsOK, 0, r.told...))
}
