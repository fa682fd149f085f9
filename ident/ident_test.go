package ident

import (
	"cmp"
	"math"
	"math/rand"
	"testing"

	"rampart/api"
)

// seqs are the edges of sequence numbers, and some between them; the wrong ones too.
var seqs = []uint64{0, 1, 2, 3, 255, 256, 65535, 65536, 65537, 1 << 31, 1 << 32, 1 << 47, api.MaxSeq - 1, api.MaxSeq,
	api.MaxSeq + 1, api.MaxSeq + 2, 1 << 49, 1 << 63, 1<<63 + 1, math.MaxUint64 - 1, math.MaxUint64}

// clients are the edges of clients' numbers, and some between them; the wrong ones too.
var clients = []int{math.MinInt, math.MinInt + 1, -1 << 31, -65537, -65536, -65535, -2, -1, 0, 1, 2, 15, 16, 255, 256, 32767, 32768,
	65534, 65535, 65536, 65537, 131072, 1 << 31, math.MaxInt - 1, math.MaxInt}

func rightSeq(seq uint64) bool { return 1 <= seq && seq <= 281474976710655 }

func rightClient(client int) bool { return 0 <= client && client <= 65535 }

// name is a name as the chapter's words make it.
func name(seq uint64, client int) api.ID { return api.ID(seq*65536 + uint64(client)) }

func checkMake(t *testing.T, seq uint64, client int) {
	t.Helper()
	want, err := api.ID(0), api.ErrArg
	if rightSeq(seq) && rightClient(client) {
		want, err = name(seq, client), api.OK
	}
	id, e := Make(seq, client)
	if id != want || e != err {
		t.Errorf("P3.1: Make(%d, %d) = %d, %d, want %d, %d", seq, client, id, int(e), want, int(err))
	}
	if e != api.OK {
		return
	}
	if s, c, e := Split(id); s != seq || c != client || e != api.OK {
		t.Errorf("P3.2: Split(Make(%d, %d)) = %d, %d, %d", seq, client, s, c, int(e))
	}
}

func checkSplit(t *testing.T, id api.ID) {
	t.Helper()
	seq, client, err := uint64(id)/65536, int(uint64(id)%65536), api.OK
	if id < 65536 {
		seq, client, err = 0, 0, api.ErrArg
	}
	s, c, e := Split(id)
	if s != seq || c != client || e != err {
		t.Errorf("P3.1: Split(%d) = %d, %d, %d, want %d, %d, %d", id, s, c, int(e), seq, client, int(err))
	}
	if e != api.OK {
		return
	}
	if again, e := Make(s, c); again != id || e != api.OK {
		t.Errorf("P3.2: Make of Split(%d) = %d, %d", id, again, int(e))
	}
}

func TestMakeAtTheEdges(t *testing.T) {
	for _, seq := range seqs {
		for _, client := range clients {
			checkMake(t, seq, client)
		}
	}
}

func TestSplitAtTheEdges(t *testing.T) {
	for _, id := range []api.ID{0, 1, 2, 65534, 65535, 65536, 65537, 131071, 131072, 1 << 32, 1<<48 - 1, 1 << 48, 1 << 63, 1<<63 - 1,
		api.MaxSeq << 16, api.MaxSeq<<16 - 1, math.MaxUint64 - 1, math.MaxUint64} {
		checkSplit(t, id)
	}
	for id := range api.ID(3 * 65536) {
		checkSplit(t, id)
	}
}

func TestNamesAnywhere(t *testing.T) {
	r := rand.New(rand.NewSource(1))
	for range 100000 {
		checkMake(t, r.Uint64()>>r.Intn(64), int(r.Uint64()>>r.Intn(64)))
		checkSplit(t, api.ID(r.Uint64()>>r.Intn(64)))
	}
}

func TestMakeExamples(t *testing.T) {
	for _, c := range []struct {
		seq    uint64
		client int
		id     api.ID
		err    api.Errno
	}{
		{1, 0, 65536, api.OK}, {1, 2, 65538, api.OK}, {2, 0, 131072, api.OK}, {1<<48 - 1, 65535, 1<<64 - 1, api.OK},
		{0, 0, 0, api.ErrArg}, {1 << 48, 0, 0, api.ErrArg}, {1, 65536, 0, api.ErrArg}, {1, -1, 0, api.ErrArg},
	} {
		if id, e := Make(c.seq, c.client); id != c.id || e != c.err {
			t.Errorf("P3.1: Make(%d, %d) = %d, %d, want %d, %d", c.seq, c.client, id, int(e), c.id, int(c.err))
		}
	}
}

func TestSplitExamples(t *testing.T) {
	for _, c := range []struct {
		id     api.ID
		seq    uint64
		client int
		err    api.Errno
	}{{65538, 1, 2, api.OK}, {0, 0, 0, api.ErrArg}, {65535, 0, 0, api.ErrArg}} {
		if s, k, e := Split(c.id); s != c.seq || k != c.client || e != c.err {
			t.Errorf("P3.1: Split(%d) = %d, %d, %d, want %d, %d, %d", c.id, s, k, int(e), c.seq, c.client, int(c.err))
		}
	}
}

type made struct {
	id     api.ID
	seq    uint64
	client int
}

func allMade() []made {
	var l []made
	for _, seq := range seqs {
		for _, client := range clients {
			if id, e := Make(seq, client); e == api.OK {
				l = append(l, made{id, seq, client})
			}
		}
	}
	return l
}

func TestOneOrder(t *testing.T) {
	l := allMade()
	if len(l) == 0 {
		t.Fatal("P3.1: Make gives no name")
	}
	for _, a := range l {
		for _, b := range l {
			want := cmp.Or(cmp.Compare(a.seq, b.seq), cmp.Compare(a.client, b.client))
			if cmp.Compare(a.id, b.id) != want {
				t.Fatalf("P3.3: the names of %d, %d and %d, %d are %d and %d", a.seq, a.client, b.seq, b.client, a.id, b.id)
			}
			if a.client != b.client && a.id == b.id {
				t.Fatalf("P3.3: the clients %d and %d both have the name %d", a.client, b.client, a.id)
			}
		}
	}
}

// model is the chapter's source: how many names it has given, counted from its first.
type model struct {
	client int
	first  uint64
	given  uint64
}

func (m *model) left() uint64 { return 1<<48 - m.first - m.given }

func (m *model) last() api.ID {
	if m.given == 0 {
		return 0
	}
	return name(m.first+m.given-1, m.client)
}

func (m *model) next() (api.ID, api.Errno) {
	if m.left() == 0 {
		return 0, api.ErrExhausted
	}
	m.given++
	return m.last(), api.OK
}

// begin makes a source and its model, and holds them against each other; nil: there is none.
func begin(t *testing.T, client int, first uint64) (*Source, *model) {
	t.Helper()
	s, e := Of(client, first)
	if !rightClient(client) || first > api.MaxSeq {
		if s != nil || e != api.ErrArg {
			t.Errorf("P3.1: Of(%d, %d) = %v, %d, want nil, %d", client, first, s, int(e), int(api.ErrArg))
		}
		return nil, nil
	}
	if s == nil || e != api.OK {
		t.Fatalf("P3.1: Of(%d, %d) = %v, %d", client, first, s, int(e))
	}
	m := &model{client: client, first: first}
	if first == 0 {
		m.first = 1
	}
	look(t, s, m)
	return s, m
}

// look asks twice: neither question changes anything.
func look(t *testing.T, s *Source, m *model) {
	t.Helper()
	for range 2 {
		if id, left := s.Last(), s.Left(); id != m.last() || left != m.left() {
			t.Fatalf("P3.1: client %d, first %d, %d given: Last %d, Left %d, want %d, %d", m.client, m.first, m.given, id, left, m.last(), m.left())
		}
	}
}

func step(t *testing.T, s *Source, m *model) {
	t.Helper()
	id, e := s.Next()
	want, err := m.next()
	if id != want || e != err {
		t.Fatalf("P3.1: client %d, first %d, %d given: Next = %d, %d, want %d, %d", m.client, m.first, m.given, id, int(e), want, int(err))
	}
	look(t, s, m)
}

func TestSourcesAtTheEdges(t *testing.T) {
	for _, first := range seqs {
		for _, client := range clients {
			s, m := begin(t, client, first)
			for range 5 {
				if s != nil {
					step(t, s, m)
				}
			}
		}
	}
}

// Many sources, of the same client and of others, go on in turns: none knows of another.
func TestSourcesInTurns(t *testing.T) {
	r := rand.New(rand.NewSource(2))
	var sources []*Source
	var models []*model
	for _, client := range []int{0, 2, 2, 65535, 0} {
		for _, first := range []uint64{0, 1, 7, 65535, api.MaxSeq - 40, api.MaxSeq} {
			s, m := begin(t, client, first)
			sources, models = append(sources, s), append(models, m)
		}
	}
	for range 5000 {
		i := r.Intn(len(sources))
		step(t, sources[i], models[i])
	}
	for i, s := range sources {
		look(t, s, models[i])
	}
}

func TestTwoSourcesInTurns(t *testing.T) {
	a, _ := Of(3, 0)
	b, _ := Of(4, 0)
	seen := map[api.ID]int{}
	for range 1000 {
		for _, s := range []*Source{a, b} {
			id, e := s.Next()
			if e != api.OK {
				t.Fatalf("P3.1: Next: %d", int(e))
			}
			seen[id]++
		}
	}
	if len(seen) != 2000 {
		t.Errorf("P3.3: two clients' 2000 names are %d", len(seen))
	}
}

func TestOnce(t *testing.T) {
	const many = 70000
	s, e := Of(9, api.MaxSeq-many+1)
	if s == nil || e != api.OK {
		t.Fatalf("P3.1: Of: %d", int(e))
	}
	last := api.ID(0)
	for i := range many {
		id, e := s.Next()
		if e != api.OK || id <= last {
			t.Fatalf("P3.4: name %d is %d behind %d, %d", i, id, last, int(e))
		}
		if _, c, e := Split(id); c != 9 || e != api.OK {
			t.Fatalf("P3.4: name %d is of the client %d, %d", i, c, int(e))
		}
		last = id
	}
	if seq, _, _ := Split(last); seq != api.MaxSeq {
		t.Errorf("P3.4: the last name has %d", seq)
	}
	for range 1000 {
		if id, e := s.Next(); id != 0 || e != api.ErrExhausted || s.Last() != last || s.Left() != 0 {
			t.Fatalf("P3.4: behind the last name: %d, %d; Last %d, Left %d", id, int(e), s.Last(), s.Left())
		}
	}
}

func TestSourceExamples(t *testing.T) {
	s, e := Of(2, 0)
	if s == nil || e != api.OK || s.Last() != 0 || s.Left() != 1<<48-1 {
		t.Fatalf("P3.1: Of(2, 0): %d", int(e))
	}
	for _, want := range []api.ID{65538, 131074} {
		if id, e := s.Next(); id != want || e != api.OK || s.Last() != want {
			t.Errorf("P3.1: Next() = %d, %d, Last() = %d, want %d", id, int(e), s.Last(), want)
		}
	}
	z, e := Of(0, 1<<48-1)
	if z == nil || e != api.OK {
		t.Fatalf("P3.1: Of(0, 1<<48 - 1): %d", int(e))
	}
	if id, e := z.Next(); id != (1<<48-1)<<16 || e != api.OK || z.Left() != 0 {
		t.Errorf("P3.1: Next() = %d, %d, Left() = %d", id, int(e), z.Left())
	}
	if id, e := z.Next(); id != 0 || e != api.ErrExhausted || z.Last() != (1<<48-1)<<16 {
		t.Errorf("P3.1: Next() = %d, %d, Last() = %d", id, int(e), z.Last())
	}
	for _, c := range []struct {
		client int
		first  uint64
	}{{65536, 0}, {0, 1 << 48}} {
		if s, e := Of(c.client, c.first); s != nil || e != api.ErrArg {
			t.Errorf("P3.1: Of(%d, %d) = %v, %d", c.client, c.first, s, int(e))
		}
	}
}
