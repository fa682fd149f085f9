package writer

import (
	"fmt"
	"hash/fnv"
	"math"
	"math/rand"
	"runtime"
	"slices"
	"strings"
	"testing"

	"rampart/api"
	"rampart/shard"
)

// The chapter's numbers, not api's.
const (
	kPrepare   = 1
	kCommit    = 2
	kLatest    = 3
	kByID      = 4
	kPrepared  = 5
	kCommitted = 6
	kVersions  = 7
	kNack      = 8

	pending   = 0
	rsOK      = 1
	rsAborted = 3
	rsUnknown = 4

	errArg  = api.Errno(1)
	errKeys = api.Errno(40)

	one    = api.ID(65536)
	name   = api.ID(65539)
	lastID = api.ID(math.MaxUint64)

	maxSet   = 1024
	maxParts = 64
	maxText  = 65535
)

// Pairs, messages, posts.

func pair(key, value string) api.Pair { return api.Pair{Key: key, Value: value} }

func pairsOf(keys ...string) []api.Pair {
	var out []api.Pair
	for i, key := range keys {
		out = append(out, pair(key, fmt.Sprint("value ", i)))
	}
	return out
}

// named are n keys, rising.
func named(n int) []string {
	out := make([]string, n)
	for i := range out {
		out[i] = fmt.Sprintf("k%05d", i)
	}
	return out
}

// ab are the pairs of the examples: with four partitions a is in 0, b in 1.
func ab() []api.Pair { return []api.Pair{pair("b", "2"), pair("a", "1")} }

func prepare(part int, req uint64, pairs ...api.Pair) api.Post {
	return api.Post{Part: part, Message: api.Message{Kind: kPrepare, Client: 3, Req: req, ID: name, Pairs: pairs, Keys: []string{"a", "b"}}}
}

func commit(part int, req uint64) api.Post {
	return api.Post{Part: part, Message: api.Message{Kind: kCommit, Client: 3, Req: req, ID: name}}
}

func says(kind int, req uint64, id api.ID) api.Message {
	return api.Message{Kind: kind, Req: req, ID: id}
}

func prepared(req uint64) api.Message { return says(kPrepared, req, name) }

func committed(req uint64) api.Message { return says(kCommitted, req, name) }

// kindFor is the kind of a right answer.
func kindFor(question int) int {
	if question == kPrepare {
		return kPrepared
	}
	return kCommitted
}

// answerTo is a partition's right answer.
func answerTo(p api.Post) api.Message {
	return api.Message{Kind: kindFor(p.Message.Kind), Client: p.Message.Client, Req: p.Message.Req, ID: p.Message.ID}
}

func sameVersion(a, b api.Version) bool {
	return a.Key == b.Key && a.ID == b.ID && a.Value == b.Value && slices.Equal(a.Keys, b.Keys)
}

func sameMessage(a, b api.Message) bool {
	return a.Kind == b.Kind && a.Client == b.Client && a.Req == b.Req && a.ID == b.ID && slices.Equal(a.Pairs, b.Pairs) &&
		slices.Equal(a.Keys, b.Keys) && slices.Equal(a.Wants, b.Wants) && slices.EqualFunc(a.Versions, b.Versions, sameVersion)
}

func samePost(a, b api.Post) bool { return a.Part == b.Part && sameMessage(a.Message, b.Message) }

func samePosts(a, b []api.Post) bool { return slices.EqualFunc(a, b, samePost) }

func copyOf(p api.Post) api.Post {
	p.Message.Pairs, p.Message.Keys = slices.Clone(p.Message.Pairs), slices.Clone(p.Message.Keys)
	return p
}

func copies(l []api.Post) []api.Post {
	var out []api.Post
	for _, p := range l {
		out = append(out, copyOf(p))
	}
	return out
}

// short is what is told of great things.
func short(x any) string {
	s := strings.ToValidUTF8(fmt.Sprintf("%+v", x), "?")
	if len(s) > 1500 {
		return s[:1500] + " .."
	}
	return s
}

// Numbers.

// counter tells 1, 2, .. and how many it told.
type counter struct{ told uint64 }

func (c *counter) next() uint64 {
	c.told++
	return c.told
}

func numbers() func() uint64 { return new(counter).next }

// The chapter's words, done slowly: everything that was ever told and everything that ever counted is written down, and
// each answer is reckoned from all of that.

type model struct {
	pairs []api.Pair
	id    api.ID
	parts int
	next  func() uint64

	begun    bool
	given    bool
	prepares []api.Post
	commits  []api.Post
	counted  map[string]bool
}

func placeOf(key string, parts int) int {
	h := fnv.New64a()
	h.Write([]byte(key))
	return int(h.Sum64() % uint64(parts))
}

func goodPairs(l []api.Pair) bool {
	if len(l) < 1 || len(l) > maxSet {
		return false
	}
	seen := map[string]bool{}
	for _, p := range l {
		if seen[p.Key] || len(p.Key) > maxText || len(p.Value) > maxText {
			return false
		}
		seen[p.Key] = true
	}
	return true
}

func newModel(pairs []api.Pair, id api.ID, parts int, next func() uint64) (*model, api.Errno) {
	if parts < 1 || parts > maxParts || uint64(id) < 65536 || next == nil {
		return nil, errArg
	}
	if !goodPairs(pairs) {
		return nil, errKeys
	}
	rising := slices.Clone(pairs)
	slices.SortFunc(rising, func(a, b api.Pair) int { return strings.Compare(a.Key, b.Key) })
	return &model{pairs: rising, id: id, parts: parts, next: next, counted: map[string]bool{}}, 0
}

func (x *model) message(kind int) api.Message {
	return api.Message{Kind: kind, Client: int(uint64(x.id) & 0xffff), ID: x.id}
}

func (x *model) begin() []api.Post {
	if x.begun || x.given {
		return nil
	}
	x.begun = true
	for part := range x.parts {
		m := x.message(kPrepare)
		for _, p := range x.pairs {
			if placeOf(p.Key, x.parts) == part {
				m.Pairs = append(m.Pairs, p)
			}
			m.Keys = append(m.Keys, p.Key)
		}
		if len(m.Pairs) > 0 {
			m.Req = x.next()
			x.prepares = append(x.prepares, api.Post{Part: part, Message: m})
		}
	}
	return x.prepares
}

func mark(p api.Post) string { return fmt.Sprint(p.Message.Kind, " to ", p.Part) }

// open are the questions of a round that are not answered.
func (x *model) open(round []api.Post) []api.Post {
	var out []api.Post
	for _, p := range round {
		if !x.counted[mark(p)] {
			out = append(out, p)
		}
	}
	return out
}

// round are the questions of this round.
func (x *model) round() []api.Post {
	if len(x.commits) > 0 {
		return x.commits
	}
	return x.prepares
}

func (x *model) receive(part int, m api.Message) []api.Post {
	if x.result() != pending {
		return nil
	}
	first := len(x.commits) == 0
	for _, p := range x.open(x.round()) {
		if p.Part == part && p.Message.Req == m.Req && m.ID == x.id && m.Kind == kindFor(p.Message.Kind) {
			x.counted[mark(p)] = true
		}
	}
	if !first || !x.begun || len(x.open(x.prepares)) > 0 {
		return nil
	}
	for _, p := range x.prepares {
		q := api.Post{Part: p.Part, Message: x.message(kCommit)}
		q.Message.Req = x.next()
		x.commits = append(x.commits, q)
	}
	return x.commits
}

func (x *model) again() []api.Post {
	if x.result() != pending || !x.begun {
		return nil
	}
	return x.open(x.round())
}

func (x *model) give() {
	if x.result() == pending {
		x.given = true
	}
}

func (x *model) result() int {
	switch {
	case len(x.commits) > 0 && len(x.open(x.commits)) == 0:
		return rsOK
	case !x.given:
		return pending
	case len(x.commits) > 0:
		return rsUnknown
	}
	return rsAborted
}

// Memory with spare room.

// roomy is a copy of a list with spare room behind it, in which something stands.
func roomy[T any](l []T, x T) []T {
	out := append(append(make([]T, 0, len(l)+3), l...), x, x, x)
	return out[:len(l)]
}

func roomyMessage(m api.Message) api.Message {
	m.Pairs, m.Keys = roomy(m.Pairs, pair("spare", "s")), roomy(m.Keys, "spare")
	m.Wants, m.Versions = roomy(m.Wants, api.Want{Key: "spare", ID: 7}), roomy(m.Versions, api.Version{Key: "spare"})
	return m
}

// whole is a message with its lists up to the ends of their room.
func whole(m api.Message) api.Message {
	m.Pairs, m.Keys = m.Pairs[:cap(m.Pairs)], m.Keys[:cap(m.Keys)]
	m.Wants, m.Versions = m.Wants[:cap(m.Wants)], m.Versions[:cap(m.Versions)]
	return m
}

// fill writes a list full, its spare room too.
func fill[T any](l []T, x T) {
	l = l[:cap(l)]
	for i := range l {
		l[i] = x
	}
}

// spoil writes over all that a message has, and lengthens its lists.
func spoil(m *api.Message) {
	fill(m.Pairs, pair("spoilt", "spoilt"))
	fill(m.Keys, "spoilt")
	fill(m.Wants, api.Want{Key: "spoilt", ID: 7})
	fill(m.Versions, api.Version{Key: "spoilt"})
	*m = api.Message{
		Kind: -1, Client: -1, Req: 77, ID: 77,
		Pairs: append(m.Pairs, pair("spoilt!", "")), Keys: append(m.Keys, "spoilt!"),
		Wants: append(m.Wants, api.Want{Key: "spoilt!"}), Versions: append(m.Versions, api.Version{Key: "spoilt!"}),
	}
}

// spoilOneByOne writes over each post of an answer: false, if one that comes later is another then than it ought to be.
func spoilOneByOne(l, ought []api.Post) bool {
	for i := range l {
		if !samePosts(l[i:], ought[i:]) {
			return false
		}
		spoil(&l[i].Message)
		l[i].Part = -77
	}
	fill(l, api.Post{Part: -7})
	_ = append(l, api.Post{Part: -8})
	return true
}

// A writer beside its model.

type twins struct {
	w      *Writer
	x      *model
	calls  *int
	asked  *int
	script []string
}

// counting is a function that tells these numbers from the first on, the last one ever after, and how often it was called.
func counting(tell []uint64) (func() uint64, *int) {
	n := new(int)
	return func() uint64 {
		i := min(*n, len(tell)-1)
		*n++
		return tell[i]
	}, n
}

func rising(n int) []uint64 {
	var out []uint64
	for i := range n {
		out = append(out, uint64(i+1))
	}
	return out
}

// newTwins makes both of a write; what is handed in is written over at once.
func newTwins(t *testing.T, pairs []api.Pair, id api.ID, parts int, tell []uint64) *twins {
	t.Helper()
	next, calls := counting(tell)
	other, asked := counting(tell)
	in := roomy(pairs, pair("spare", "s"))
	w, err := New(in, id, parts, next)
	if !slices.Equal(in[:cap(in)], append(slices.Clone(pairs), pair("spare", "s"), pair("spare", "s"), pair("spare", "s"))) {
		t.Fatalf("P18.6: New changed what it was handed: %s", short(in[:cap(in)]))
	}
	fill(in, pair("spoilt", "spoilt"))
	x, bad := newModel(pairs, id, parts, other)
	if err != bad || (w == nil) != (err != 0) {
		t.Fatalf("P18.1: New(%s, %d, %d) = %v, %d, want %d", short(pairs), id, parts, w != nil, err, bad)
	}
	g := &twins{w: w, x: x, calls: calls, asked: asked}
	if w != nil {
		g.script = append(g.script, fmt.Sprintf("New(%s, %d, %d)", short(pairs), id, parts))
		g.looks(t)
	}
	return g
}

// looks holds what can be seen without a call that changes anything against the model.
func (g *twins) looks(t *testing.T) {
	t.Helper()
	if got := g.w.Result(); got != g.x.result() {
		t.Fatalf("P18.1: Result = %d, want %d, behind %q", got, g.x.result(), g.script)
	}
	if got := g.w.ID(); got != g.x.id {
		t.Fatalf("P18.1: ID = %d, want %d, behind %q", got, g.x.id, g.script)
	}
	if *g.calls != *g.asked {
		t.Fatalf("P18.1: next was called %d times, want %d, behind %q", *g.calls, *g.asked, g.script)
	}
}

func (g *twins) tells(t *testing.T, call string, got, want []api.Post) {
	t.Helper()
	g.script = append(g.script, call)
	if !samePosts(got, want) {
		t.Fatalf("P18.1: %s, want %s, behind %q", short(got), short(want), g.script)
	}
	if !spoilOneByOne(got, want) {
		t.Fatalf("P18.6: posts of one answer share memory, behind %q", g.script)
	}
	g.looks(t)
}

func (g *twins) begin(t *testing.T) {
	t.Helper()
	g.tells(t, "Begin", g.w.Begin(), g.x.begin())
}

func (g *twins) again(t *testing.T) {
	t.Helper()
	g.tells(t, "Again", g.w.Again(), g.x.again())
}

func (g *twins) give(t *testing.T) {
	t.Helper()
	g.w.Give()
	g.x.give()
	g.tells(t, "Give", nil, nil)
}

func (g *twins) receive(t *testing.T, part int, m api.Message) {
	t.Helper()
	in := roomyMessage(m)
	got := g.w.Receive(part, in)
	if !sameMessage(whole(in), whole(roomyMessage(m))) {
		t.Fatalf("P18.6: Receive changed what it was handed: %s", short(whole(in)))
	}
	spoil(&in)
	g.tells(t, fmt.Sprintf("Receive(%d, %s)", part, short(m)), got, g.x.receive(part, m))
}

// answer answers a question as it was asked.
func (g *twins) answer(t *testing.T, p api.Post) {
	t.Helper()
	g.receive(t, p.Part, answerTo(p))
}

// answerAll answers all questions of this round.
func (g *twins) answerAll(t *testing.T) {
	t.Helper()
	for _, p := range copies(g.x.again()) {
		g.answer(t, p)
	}
}

// The examples.

func tells(t *testing.T, what string, got []api.Post, want ...api.Post) {
	t.Helper()
	if !samePosts(got, want) {
		t.Fatalf("P18.1: %s: %s, want %s", what, short(got), short(want))
	}
}

func resultIs(t *testing.T, what string, w *Writer, want int) {
	t.Helper()
	if got := w.Result(); got != want {
		t.Fatalf("P18.1: %s: Result = %d, want %d", what, got, want)
	}
}

func fresh(t *testing.T, pairs []api.Pair, id api.ID, parts int, next func() uint64) *Writer {
	t.Helper()
	w, err := New(pairs, id, parts, next)
	if w == nil || err != 0 {
		t.Fatalf("P18.1: New(%s, %d, %d) = %d", short(pairs), id, parts, err)
	}
	resultIs(t, "behind New", w, pending)
	return w
}

func exampleBegun(t *testing.T) *Writer {
	t.Helper()
	w := fresh(t, ab(), name, 4, numbers())
	tells(t, "Begin", w.Begin(), prepare(0, 1, pair("a", "1")), prepare(1, 2, pair("b", "2")))
	return w
}

func TestExampleOne(t *testing.T) {
	w := exampleBegun(t)
	tells(t, "the first MsPrepared", w.Receive(1, prepared(2)))
	tells(t, "again", w.Receive(1, prepared(2)))
	tells(t, "the second MsPrepared", w.Receive(0, prepared(1)), commit(0, 3), commit(1, 4))
	resultIs(t, "in the second round", w, pending)
	tells(t, "the first MsCommitted", w.Receive(0, committed(3)))
	resultIs(t, "behind one MsCommitted", w, pending)
	tells(t, "the second MsCommitted", w.Receive(1, committed(4)))
	resultIs(t, "behind both", w, rsOK)
	if w.ID() != name {
		t.Errorf("P18.1: ID = %d", w.ID())
	}
}

func TestExampleTwo(t *testing.T) {
	w := exampleBegun(t)
	tells(t, "another partition's number", w.Receive(0, prepared(2)))
	tells(t, "another write", w.Receive(0, says(kPrepared, 1, 65540)))
	tells(t, "MsNack", w.Receive(0, says(kNack, 1, name)))
	tells(t, "Again", w.Again(), prepare(0, 1, pair("a", "1")), prepare(1, 2, pair("b", "2")))
	w.Give()
	resultIs(t, "behind Give", w, rsAborted)
	tells(t, "MsPrepared behind Give", w.Receive(0, prepared(1)))
	tells(t, "the other behind Give", w.Receive(1, prepared(2)))
	resultIs(t, "behind Give and answers", w, rsAborted)
}

func TestExampleThree(t *testing.T) {
	w := exampleBegun(t)
	w.Receive(0, prepared(1))
	w.Receive(1, prepared(2))
	tells(t, "Again", w.Again(), commit(0, 3), commit(1, 4))
	w.Give()
	resultIs(t, "behind Give", w, rsUnknown)
}

func TestExampleFour(t *testing.T) {
	for _, c := range []struct {
		what  string
		pairs []api.Pair
		id    api.ID
		parts int
		next  func() uint64
		want  api.Errno
	}{
		{"none", nil, name, 4, numbers(), errKeys},
		{"a twice", []api.Pair{pair("a", "1"), pair("a", "2")}, name, 4, numbers(), errKeys},
		{"65535", ab(), 65535, 4, numbers(), errArg},
		{"parts 0", ab(), name, 0, numbers(), errArg},
		{"parts 65", ab(), name, 65, numbers(), errArg},
		{"next nil", ab(), name, 4, nil, errArg},
	} {
		if w, err := New(c.pairs, c.id, c.parts, c.next); w != nil || err != c.want {
			t.Errorf("P18.1: New with %s = %v, %d, want %d", c.what, w != nil, err, c.want)
		}
	}
}

// New.

// pairLists are lists of pairs, each with whether it may be written.
func pairLists() map[string]struct {
	pairs []api.Pair
	good  bool
} {
	type list = struct {
		pairs []api.Pair
		good  bool
	}
	long := strings.Repeat("x", maxText+1)
	twice := append(pairsOf(named(maxSet-1)...), pair("k00500", ""))
	return map[string]list{
		"nil":                     {nil, false},
		"no pairs":                {[]api.Pair{}, false},
		"the empty key":           {[]api.Pair{{}}, true},
		"one pair":                {pairsOf("a"), true},
		"two pairs":               {ab(), true},
		"a key twice":             {[]api.Pair{pair("a", "1"), pair("a", "2")}, false},
		"a key twice, far apart":  {[]api.Pair{pair("a", "1"), pair("b", "2"), pair("a", "1")}, false},
		"the empty key twice":     {[]api.Pair{{}, {}}, false},
		"a key of 65535 bytes":    {[]api.Pair{pair(long[1:], "")}, true},
		"a key of 65536 bytes":    {[]api.Pair{pair(long, "")}, false},
		"a value of 65535 bytes":  {[]api.Pair{pair("", long[1:])}, true},
		"a value of 65536 bytes":  {[]api.Pair{pair("", long)}, false},
		"such a value, the last":  {[]api.Pair{pair("a", ""), pair("b", long)}, false},
		"1024 pairs":              {pairsOf(named(maxSet)...), true},
		"1024 pairs, a key twice": {twice, false},
		"1025 pairs":              {pairsOf(named(maxSet + 1)...), false},
		"100000 pairs":            {make([]api.Pair, 100000), false},
	}
}

func TestNewArguments(t *testing.T) {
	called := 0
	next := func() uint64 {
		called++
		return 1
	}
	ids := []api.ID{0, 1, 3, 65535, 65536, 65537, 1<<16 + 15, 1 << 48, 1 << 63, lastID - 65535, lastID}
	parts := []int{math.MinInt, -1, 0, 1, 2, 3, 63, 64, 65, 66, 128, math.MaxInt}
	for what, l := range pairLists() {
		for _, id := range ids {
			for _, n := range parts {
				for _, f := range []func() uint64{next, nil} {
					want := api.Errno(0)
					switch {
					case n < 1 || n > 64 || id < 65536 || f == nil:
						want = errArg
					case !l.good:
						want = errKeys
					}
					w, err := New(l.pairs, id, n, f)
					if err != want || (w == nil) != (err != 0) {
						t.Fatalf("P18.1: New(%s, %d, %d, %v) = %v, %d, want %d", what, id, n, f != nil, w != nil, err, want)
					}
					if w != nil && (w.ID() != id || w.Result() != pending) {
						t.Fatalf("P18.1: New(%s, %d, %d): ID = %d, Result = %d", what, id, n, w.ID(), w.Result())
					}
				}
			}
		}
	}
	if called != 0 {
		t.Errorf("P18.1: New called next %d times", called)
	}
}

// The edges that may be are written, from their first question to their end.
func TestEdgesAreWritten(t *testing.T) {
	for what, l := range pairLists() {
		if !l.good {
			continue
		}
		for _, id := range []api.ID{65536, name, lastID} {
			for _, parts := range []int{1, 2, 63, 64} {
				g := newTwins(t, l.pairs, id, parts, rising(200))
				g.begin(t)
				g.answerAll(t)
				g.again(t)
				g.answerAll(t)
				if g.w.Result() != rsOK {
					t.Fatalf("P18.5: %s with the ID %d over %d partitions: Result = %d", what, id, parts, g.w.Result())
				}
			}
		}
	}
}

// Its client is the name's.
func TestClients(t *testing.T) {
	for _, client := range []int{0, 1, 3, 15, 16, 255, 256, 65534, 65535} {
		for _, seq := range []uint64{1, 2, 1 << 32, 1<<48 - 1} {
			id := api.ID(seq*65536 + uint64(client))
			w := fresh(t, ab(), id, 4, numbers())
			first := w.Begin()
			w.Receive(0, says(kPrepared, 1, id))
			second := w.Receive(1, says(kPrepared, 2, id))
			if len(first) != 2 || len(second) != 2 {
				t.Fatalf("P18.1: the write %d tells %d and %d questions", id, len(first), len(second))
			}
			for _, p := range append(first, second...) {
				if p.Message.Client != client || p.Message.ID != id {
					t.Errorf("P18.1: the write %d asks as client %d for %d", id, p.Message.Client, p.Message.ID)
				}
			}
		}
	}
}

// next is called once for each question, in their order, when it is first told, and at no other time.
func TestNumbers(t *testing.T) {
	tell := []uint64{90, 4, 0, math.MaxUint64, 4, 17}
	next, calls := counting(tell)
	w := fresh(t, pairsOf("a", "b", "c"), name, 4, next)
	calledIs := func(what string, want int) {
		t.Helper()
		if *calls != want {
			t.Fatalf("P18.1: %s next was called %d times, want %d", what, *calls, want)
		}
	}
	told := func(l []api.Post) []uint64 {
		var out []uint64
		for _, p := range l {
			out = append(out, p.Message.Req)
		}
		return out
	}
	w.Again()
	w.Receive(0, prepared(0))
	calledIs("ahead of Begin", 0)
	first := w.Begin()
	calledIs("behind Begin", 3)
	if !slices.Equal(told(first), tell[:3]) {
		t.Fatalf("P18.1: the first round has the numbers %d, want %d", told(first), tell[:3])
	}
	w.Begin()
	w.Again()
	w.Receive(first[0].Part, prepared(90))
	w.Receive(first[0].Part, prepared(90))
	w.Receive(first[2].Part, prepared(0))
	w.Receive(first[1].Part, says(kNack, 4, name))
	calledIs("in the first round", 3)
	second := w.Receive(first[1].Part, prepared(4))
	calledIs("in the second round", 6)
	if !slices.Equal(told(second), tell[3:]) {
		t.Fatalf("P18.1: the second round has the numbers %d, want %d", told(second), tell[3:])
	}
	w.Again()
	w.Begin()
	for _, p := range second {
		w.Receive(p.Part, answerTo(p))
	}
	resultIs(t, "behind all answers", w, rsOK)
	w.Again()
	w.Begin()
	w.Give()
	calledIs("at the end", 6)
}

// A number that next tells again and again serves as well: a question is one of its partition and its round.
func TestOneNumber(t *testing.T) {
	for _, n := range []uint64{0, 1, 7, math.MaxUint64} {
		g := newTwins(t, pairsOf("a", "b", "c", "d"), name, 4, []uint64{n})
		g.begin(t)
		for part := range 4 {
			g.receive(t, part, committed(n))
			g.receive(t, part, prepared(n+1))
			g.receive(t, part, prepared(n))
			g.receive(t, part, prepared(n))
		}
		for part := range 4 {
			g.receive(t, part, prepared(n))
			g.receive(t, part, committed(n))
		}
		if g.w.Result() != rsOK {
			t.Errorf("P18.5: with the number %d alone: Result = %d", n, g.w.Result())
		}
	}
}

// Each call in each phase.

// phases bring a write of the examples' pairs to where its name says.
func phases() map[string]func(t *testing.T, g *twins) {
	steps := func(l ...func(t *testing.T, g *twins)) func(t *testing.T, g *twins) {
		return func(t *testing.T, g *twins) {
			for _, f := range l {
				f(t, g)
			}
		}
	}
	begin := func(t *testing.T, g *twins) { g.begin(t) }
	give := func(t *testing.T, g *twins) { g.give(t) }
	all := func(t *testing.T, g *twins) { g.answerAll(t) }
	some := func(t *testing.T, g *twins) { g.answer(t, g.x.again()[1]) }
	return map[string]func(t *testing.T, g *twins){
		"ahead of Begin":                       steps(),
		"in the first round":                   steps(begin),
		"in the midst of the first round":      steps(begin, some),
		"in the second round":                  steps(begin, all),
		"in the midst of the second round":     steps(begin, all, some),
		"behind RsOK":                          steps(begin, all, all),
		"behind RsAborted":                     steps(begin, give),
		"behind RsAborted, some prepared":      steps(begin, some, give),
		"behind RsAborted, ahead of Begin":     steps(give),
		"behind RsUnknown":                     steps(begin, all, give),
		"behind RsUnknown, some are committed": steps(begin, all, some, give),
	}
}

type call struct {
	what string
	do   func(t *testing.T, g *twins)
}

func receives(part int, m api.Message) call {
	return call{fmt.Sprintf("Receive(%d, %+v)", part, m), func(t *testing.T, g *twins) { g.receive(t, part, m) }}
}

// plainCalls are those that a write of the examples' pairs, with the numbers 1 to 4, may see in its life.
func plainCalls() []call {
	return []call{
		{"Begin", func(t *testing.T, g *twins) { g.begin(t) }},
		{"Again", func(t *testing.T, g *twins) { g.again(t) }},
		{"Give", func(t *testing.T, g *twins) { g.give(t) }},
		receives(0, prepared(1)), receives(1, prepared(2)), receives(0, committed(3)), receives(1, committed(4)),
	}
}

// strayCalls are messages that never count, and such as count in one round alone or look like it.
func strayCalls() []call {
	var out []call
	for _, part := range []int{math.MinInt, -1, 0, 1, 2, 4, 64, math.MaxInt} {
		for _, m := range []api.Message{prepared(1), prepared(2), committed(3), committed(4)} {
			out = append(out, receives(part, m))
		}
	}
	for part := range 2 {
		for req := range uint64(6) {
			for kind := range 10 {
				for _, id := range []api.ID{name, 0, 65536, 65540, name + 65536} {
					out = append(out, receives(part, says(kind, req, id)))
				}
			}
		}
		out = append(out, receives(part, says(-1, 1, name)), receives(part, prepared(math.MaxUint64)), receives(part, committed(1<<63)))
	}
	return out
}

func exampleTwins(t *testing.T) *twins { return newTwins(t, ab(), name, 4, rising(4)) }

func TestEachCallInEachPhase(t *testing.T) {
	for _, reach := range phases() {
		for _, c := range append(plainCalls(), strayCalls()...) {
			g := exampleTwins(t)
			reach(t, g)
			for range 2 {
				c.do(t, g)
				g.again(t)
			}
			// It goes on as if nothing had been.
			g.begin(t)
			g.answerAll(t)
			g.answerAll(t)
			g.begin(t)
		}
	}
}

// What each phase tells, by hand.
func TestPhasesByHand(t *testing.T) {
	for what, want := range map[string]struct {
		result, given int
		again         []api.Post
	}{
		"ahead of Begin":                       {pending, rsAborted, nil},
		"in the first round":                   {pending, rsAborted, []api.Post{prepare(0, 1, pair("a", "1")), prepare(1, 2, pair("b", "2"))}},
		"in the midst of the first round":      {pending, rsAborted, []api.Post{prepare(0, 1, pair("a", "1"))}},
		"in the second round":                  {pending, rsUnknown, []api.Post{commit(0, 3), commit(1, 4)}},
		"in the midst of the second round":     {pending, rsUnknown, []api.Post{commit(0, 3)}},
		"behind RsOK":                          {rsOK, rsOK, nil},
		"behind RsAborted":                     {rsAborted, rsAborted, nil},
		"behind RsAborted, some prepared":      {rsAborted, rsAborted, nil},
		"behind RsAborted, ahead of Begin":     {rsAborted, rsAborted, nil},
		"behind RsUnknown":                     {rsUnknown, rsUnknown, nil},
		"behind RsUnknown, some are committed": {rsUnknown, rsUnknown, nil},
	} {
		g := exampleTwins(t)
		phases()[what](t, g)
		resultIs(t, what, g.w, want.result)
		tells(t, what+": Again", g.w.Again(), want.again...)
		tells(t, what+": Again once more", g.w.Again(), want.again...)
		if what != "ahead of Begin" {
			tells(t, what+": Begin", g.w.Begin())
		}
		g.w.Give()
		resultIs(t, what+": behind Give", g.w, want.given)
		tells(t, what+": Again behind Give", g.w.Again())
		tells(t, what+": Begin behind Give", g.w.Begin())
		for part := range 2 {
			for req := range uint64(6) {
				tells(t, what+": prepared behind Give", g.w.Receive(part, prepared(req)))
				tells(t, what+": committed behind Give", g.w.Receive(part, committed(req)))
			}
		}
		g.w.Give()
		resultIs(t, what+": behind Give and answers", g.w, want.given)
		if g.w.ID() != name {
			t.Errorf("P18.1: %s: ID = %d", what, g.w.ID())
		}
	}
}

func TestBeginBehindGive(t *testing.T) {
	next, calls := counting(rising(4))
	w := fresh(t, ab(), name, 4, next)
	w.Give()
	tells(t, "Begin behind Give", w.Begin())
	tells(t, "Again behind Give", w.Again())
	resultIs(t, "behind Give and Begin", w, rsAborted)
	if *calls != 0 {
		t.Errorf("P18.1: next was called %d times for a write that was given up ahead of Begin", *calls)
	}
}

// An answer ahead of Begin is none, whatever number the questions will have.
func TestAnswersAheadOfBegin(t *testing.T) {
	for _, n := range []uint64{0, 1} {
		for kind := range 10 {
			g := newTwins(t, ab(), name, 4, []uint64{n})
			for part := range 4 {
				g.receive(t, part, says(kind, n, name))
			}
			g.again(t)
			g.begin(t)
			g.again(t)
			g.answerAll(t)
			g.answerAll(t)
		}
	}
}

// m's other fields are not looked at.
func TestOtherFields(t *testing.T) {
	g := exampleTwins(t)
	g.begin(t)
	odd := api.Message{
		Client: -5, Pairs: pairsOf("z", "z"), Keys: []string{"z", "a"}, Wants: []api.Want{{Key: "z"}},
		Versions: []api.Version{{Key: "z", ID: 5, Keys: []string{"y"}}},
	}
	for _, p := range []struct {
		part, kind int
		req        uint64
	}{{1, kPrepared, 2}, {0, kPrepared, 1}, {1, kCommitted, 4}, {0, kCommitted, 3}} {
		m := odd
		m.Kind, m.Req, m.ID = p.kind, p.req, name
		g.receive(t, p.part, m)
	}
	resultIs(t, "answers with other fields", g.w, rsOK)
}

// Scripts.

// scripts hands on all rows of n calls.
func scripts(calls []call, n int, f func(script []call)) {
	script := make([]call, n)
	var lay func(i int)
	lay = func(i int) {
		if i == n {
			f(script)
			return
		}
		for _, c := range calls {
			script[i] = c
			lay(i + 1)
		}
	}
	lay(0)
}

func TestShortScripts(t *testing.T) {
	scripts(plainCalls(), 5, func(script []call) {
		g := exampleTwins(t)
		for _, c := range script {
			c.do(t, g)
		}
	})
}

// From the first round on, so that rows of that length come to an end.
func TestShortScriptsBehindBegin(t *testing.T) {
	var calls []call
	for _, c := range plainCalls() {
		if c.what != "Begin" {
			calls = append(calls, c)
		}
	}
	scripts(calls, 6, func(script []call) {
		g := exampleTwins(t)
		g.begin(t)
		for _, c := range script {
			c.do(t, g)
		}
	})
}

func TestShortScriptsInEachPhase(t *testing.T) {
	calls := append(plainCalls(),
		receives(0, prepared(2)), receives(1, prepared(1)), receives(0, committed(1)), receives(0, prepared(3)),
		receives(0, says(kNack, 1, name)), receives(0, says(kCommitted, 3, 65540)), receives(2, prepared(1)))
	for _, reach := range phases() {
		scripts(calls, 3, func(script []call) {
			g := exampleTwins(t)
			reach(t, g)
			for _, c := range script {
				c.do(t, g)
			}
		})
	}
}

// Chance.

type chance struct{ *rand.Rand }

func newChance(seed int) chance { return chance{rand.New(rand.NewSource(int64(seed)))} }

func pick[T any](c chance, l ...T) T { return l[c.Intn(len(l))] }

func (c chance) text() string {
	b := make([]byte, c.Intn(4))
	for i := range b {
		b[i] = pick(c, byte(0), 'a', 'b', 'c', 0x7f, 0x80, 0xff)
	}
	return string(b)
}

// pairs are some that may be written, in any order.
func (c chance) pairs() []api.Pair {
	seen := map[string]bool{}
	var out []api.Pair
	for range 1 + c.Intn(pick(c, 1, 3, 8, 60)) {
		key := c.text()
		if !seen[key] {
			seen[key] = true
			out = append(out, pair(key, c.text()))
		}
	}
	return out
}

func (c chance) id() api.ID {
	return pick(c, one, name, lastID, api.ID(65536+c.Intn(1<<30)), api.ID(c.Uint64()|65536))
}

func (c chance) parts() int { return pick(c, 1, 2, 3, 4, 7, 8, 63, 64, 1+c.Intn(64)) }

// tell are numbers that next may tell.
func (c chance) tell() []uint64 {
	out := rising(140)
	switch c.Intn(4) {
	case 0:
		slices.Reverse(out)
	case 1:
		for i := range out {
			out[i] = uint64(c.Intn(3))
		}
	case 2:
		for i := range out {
			out[i] = c.Uint64()
		}
	}
	return out
}

// stray is a message much like an answer to a question.
func (c chance) stray(p api.Post) (int, api.Message) {
	part, m := p.Part, answerTo(p)
	for range 1 + c.Intn(2) {
		switch c.Intn(4) {
		case 0:
			part = pick(c, -1, 0, 1, part+1, part-1, c.Intn(64), 64)
		case 1:
			m.Req = pick(c, 0, m.Req+1, m.Req-1, uint64(c.Intn(140)), c.Uint64())
		case 2:
			m.ID = pick(c, 0, m.ID+1, m.ID-1, m.ID+65536, c.id())
		case 3:
			m.Kind = pick(c, -1, 0, kPrepare, kCommit, kLatest, kByID, kPrepared, kCommitted, kVersions, kNack, 9)
		}
	}
	return part, m
}

// known are all questions that were ever told.
func (g *twins) known() []api.Post { return append(slices.Clone(g.x.prepares), g.x.commits...) }

func (g *twins) step(t *testing.T, c chance) {
	known := g.known()
	switch n := c.Intn(40); {
	case n == 0:
		g.give(t)
	case n < 3 || len(known) == 0:
		g.begin(t)
	case n < 6:
		g.again(t)
	case n < 15:
		g.answer(t, pick(c, known...))
	case n < 22:
		part, m := c.stray(pick(c, known...))
		g.receive(t, part, m)
	default:
		if open := g.x.again(); len(open) > 0 {
			g.answer(t, pick(c, open...))
		}
	}
}

func TestScriptsByChance(t *testing.T) {
	ends := map[int]int{}
	for seed := range 3000 {
		c := newChance(seed)
		g := newTwins(t, c.pairs(), c.id(), c.parts(), c.tell())
		for range 5 + c.Intn(80) {
			g.step(t, c)
		}
		ends[g.w.Result()]++
	}
	for _, result := range []int{pending, rsOK, rsAborted, rsUnknown} {
		if ends[result] < 50 {
			t.Errorf("the scripts of chance end %v: too few %d", ends, result)
		}
	}
}

func TestWrongWritesByChance(t *testing.T) {
	for seed := range 2000 {
		c := newChance(10000 + seed)
		pairs, id, parts := c.pairs(), c.id(), c.parts()
		switch c.Intn(4) {
		case 0:
			pairs = slices.Insert(pairs, c.Intn(len(pairs)+1), pick(c, pairs...))
		case 1:
			id = api.ID(c.Intn(65536))
		case 2:
			parts = pick(c, -c.Intn(100), 65+c.Intn(100))
		case 3:
			pairs = slices.Insert(pairs, c.Intn(len(pairs)+1), pair(c.text()+strings.Repeat("l", maxText), ""))
			if c.Intn(2) == 0 {
				parts = 0
			}
		}
		newTwins(t, pairs, id, parts, c.tell())
	}
}

// P18.2, watched apart from the model.

type watched struct {
	w        *Writer
	asked    map[int]bool
	prepared map[int]bool
	commits  int
}

func (o *watched) sees(t *testing.T, l []api.Post) {
	t.Helper()
	for _, p := range l {
		switch p.Message.Kind {
		case kPrepare:
			o.asked[p.Part] = true
		case kCommit:
			o.commits++
			for part := range o.asked {
				if !o.prepared[part] {
					t.Fatalf("P18.2: MsCommit is told to %d ahead of an MsPrepared of %d", p.Part, part)
				}
			}
		}
	}
	if o.w.Result() == rsAborted && o.commits > 0 {
		t.Fatalf("P18.2: MsCommit was told, the result is RsAborted")
	}
}

func TestPreparedFirst(t *testing.T) {
	aborted, done := 0, 0
	for seed := range 2000 {
		c := newChance(20000 + seed)
		w := fresh(t, c.pairs(), name, c.parts(), numbers())
		o := &watched{w, map[int]bool{}, map[int]bool{}, 0}
		first := w.Begin()
		o.sees(t, first)
		for range 4 * len(first) {
			p := pick(c, first...)
			if c.Intn(3) == 0 {
				part, m := c.stray(p)
				// What counts by chance is a right answer too.
				if m.Kind == kPrepared && m.ID == name && slices.ContainsFunc(first, func(q api.Post) bool { return q.Part == part && q.Message.Req == m.Req }) {
					o.prepared[part] = true
				}
				o.sees(t, w.Receive(part, m))
				continue
			}
			o.prepared[p.Part] = true
			o.sees(t, w.Receive(p.Part, answerTo(p)))
			o.sees(t, w.Again())
		}
		w.Give()
		o.sees(t, nil)
		for _, p := range first {
			o.prepared[p.Part] = true
			o.sees(t, w.Receive(p.Part, answerTo(p)))
		}
		o.sees(t, w.Again())
		o.sees(t, w.Begin())
		switch w.Result() {
		case rsAborted:
			aborted++
		case rsUnknown:
			done++
			if o.commits < len(first) {
				t.Fatalf("P18.2: RsUnknown with %d MsCommits of %d", o.commits, len(first))
			}
		}
	}
	if aborted < 100 || done < 100 {
		t.Errorf("too few of a kind: %d aborted, %d unknown", aborted, done)
	}
}

// All but one partition have prepared: no MsCommit, whichever it is.
func TestOneIsMissing(t *testing.T) {
	for missing := range 5 {
		w := fresh(t, pairsOf("a", "b", "c", "d", "e"), name, 64, numbers())
		first := w.Begin()
		if len(first) != 5 {
			t.Fatalf("P18.3: five keys are asked for in %d partitions", len(first))
		}
		for range 3 {
			for i, p := range first {
				if i != missing {
					tells(t, "all but one", w.Receive(p.Part, answerTo(p)))
				}
			}
		}
		tells(t, "Again", w.Again(), first[missing])
		w.Give()
		resultIs(t, "Give", w, rsAborted)
		tells(t, "the last one behind Give", w.Receive(first[missing].Part, answerTo(first[missing])))
	}
}

// P18.3, by a reckoning of its own.

func eachItsOwn(t *testing.T, what string, pairs []api.Pair, parts int, first, second []api.Post) {
	t.Helper()
	var names []string
	left := map[string]string{}
	for _, p := range pairs {
		names = append(names, p.Key)
		left[p.Key] = p.Value
	}
	slices.Sort(names)
	for i, p := range first {
		if p.Message.Kind != kPrepare || len(p.Message.Pairs) == 0 || !slices.Equal(p.Message.Keys, names) {
			t.Fatalf("P18.3: %s: a first question is %s", what, short(p))
		}
		if i > 0 && first[i-1].Part >= p.Part {
			t.Fatalf("P18.3: %s: partition %d is asked behind %d", what, p.Part, first[i-1].Part)
		}
		for j, q := range p.Message.Pairs {
			value, is := left[q.Key]
			if !is || value != q.Value {
				t.Fatalf("P18.3: %s: the pair %+v stands twice, or is none of the write's", what, q)
			}
			delete(left, q.Key)
			if part, err := shard.Of(q.Key, parts); err != 0 || part != p.Part {
				t.Fatalf("P18.3: %s: the key %q of partition %d is prepared at %d", what, q.Key, part, p.Part)
			}
			if j > 0 && p.Message.Pairs[j-1].Key >= q.Key {
				t.Fatalf("P18.3: %s: the pairs don't rise: %s", what, short(p.Message.Pairs))
			}
		}
	}
	if len(left) > 0 {
		t.Fatalf("P18.3: %s: nobody is asked for %s", what, short(left))
	}
	if !slices.EqualFunc(first, second, func(p, c api.Post) bool { return p.Part == c.Part && c.Message.Kind == kCommit }) {
		t.Fatalf("P18.3: %s: the MsCommits are %s", what, short(second))
	}
}

// rounds are both rounds of a write that is answered.
func rounds(t *testing.T, pairs []api.Pair, parts int) (first, second []api.Post) {
	t.Helper()
	w := fresh(t, pairs, name, parts, numbers())
	first = w.Begin()
	for _, p := range first {
		if len(second) > 0 {
			t.Fatalf("P18.2: MsCommits ahead of all MsPrepared: %s", short(second))
		}
		second = w.Receive(p.Part, answerTo(p))
	}
	return first, second
}

func TestEachItsOwn(t *testing.T) {
	lists := map[string][]api.Pair{
		"one": pairsOf("a"), "two": ab(), "many": pairsOf("e", "", "a", "d", "\xff", "c", "b", "\x00", "aa", "a\x00"),
		"1024": pairsOf(named(maxSet)...),
	}
	backwards := pairsOf(named(maxSet)...)
	slices.Reverse(backwards)
	lists["1024 backwards"] = backwards
	for what, pairs := range lists {
		for parts := 1; parts <= maxParts; parts++ {
			first, second := rounds(t, pairs, parts)
			eachItsOwn(t, fmt.Sprint(what, " over ", parts), pairs, parts, first, second)
		}
	}
	for seed := range 1000 {
		c := newChance(30000 + seed)
		pairs, parts := c.pairs(), c.parts()
		first, second := rounds(t, pairs, parts)
		eachItsOwn(t, fmt.Sprint("seed ", seed), pairs, parts, first, second)
	}
}

// The order in which the pairs are handed in is not seen.
func TestOrderOfPairs(t *testing.T) {
	for seed := range 300 {
		c := newChance(40000 + seed)
		pairs, parts := c.pairs(), c.parts()
		first, second := rounds(t, pairs, parts)
		c.Shuffle(len(pairs), func(i, j int) { pairs[i], pairs[j] = pairs[j], pairs[i] })
		again, then := rounds(t, pairs, parts)
		if !samePosts(first, again) || !samePosts(second, then) {
			t.Fatalf("P18.1: in another order %s is asked, want %s", short(again), short(first))
		}
	}
}

// P18.4.

// orders hands on all orders of the numbers below n.
func orders(n int, f func(order []int)) {
	order := make([]int, 0, n)
	var lay func()
	lay = func() {
		if len(order) == n {
			f(order)
			return
		}
		for i := range n {
			if !slices.Contains(order, i) {
				order = append(order, i)
				lay()
				order = order[:len(order)-1]
			}
		}
	}
	lay()
}

// answersIn answers a round's questions in an order, with what comes between them; all that is told then.
func answersIn(w *Writer, round []api.Post, order []int, between func(i int)) []api.Post {
	var out []api.Post
	for i, n := range order {
		between(i)
		out = append(out, w.Receive(round[n].Part, answerTo(round[n]))...)
	}
	return out
}

func TestAnyOrder(t *testing.T) {
	pairs := pairsOf("a", "b", "c", "d")
	first, second := rounds(t, pairs, 4)
	if len(first) != 4 {
		t.Fatalf("P18.3: four keys are asked for in %d partitions", len(first))
	}
	orders(4, func(order []int) {
		orders(4, func(then []int) {
			w := fresh(t, pairs, name, 4, numbers())
			tells(t, "Begin", w.Begin(), first...)
			tells(t, fmt.Sprint("prepared in the order ", order), answersIn(w, first, order, func(int) {}), second...)
			tells(t, fmt.Sprint("committed in the order ", then), answersIn(w, second, then, func(int) {}))
			if w.Result() != rsOK {
				t.Fatalf("P18.4: in the orders %d and %d the result is %d", order, then, w.Result())
			}
		})
	})
}

func TestAnyOften(t *testing.T) {
	for seed := range 1000 {
		c := newChance(50000 + seed)
		pairs, parts := c.pairs(), c.parts()
		first, second := rounds(t, pairs, parts)
		w := fresh(t, pairs, name, parts, numbers())
		tells(t, "Begin", w.Begin(), first...)
		// noise comes between: what was answered, again; what was never asked; answers of the other round.
		noise := func(round, other []api.Post, order []int) func(i int) {
			return func(i int) {
				for range c.Intn(4) {
					if i > 0 {
						p := round[order[c.Intn(i)]]
						tells(t, "an answer again", w.Receive(p.Part, answerTo(p)))
					}
					p := round[order[i]]
					for _, m := range []api.Message{
						says(kNack, p.Message.Req, name), says(kVersions, p.Message.Req, name),
						says(kindFor(3-p.Message.Kind), p.Message.Req, name), says(kindFor(p.Message.Kind), p.Message.Req+1000, name),
						says(kindFor(p.Message.Kind), p.Message.Req, name+65536), says(kindFor(p.Message.Kind), p.Message.Req, 0),
					} {
						tells(t, "a stray", w.Receive(p.Part, m))
					}
					tells(t, "from another", w.Receive(p.Part+1, answerTo(p)))
					tells(t, "from none", w.Receive(p.Part-64, answerTo(p)))
					q := pick(c, other...)
					tells(t, "of the other round", w.Receive(q.Part, answerTo(q)))
				}
			}
		}
		order, then := c.Perm(len(first)), c.Perm(len(first))
		tells(t, "all prepared", answersIn(w, first, order, noise(first, second, order)), second...)
		tells(t, "all committed", answersIn(w, second, then, noise(second, first, then)))
		if w.Result() != rsOK {
			t.Fatalf("P18.4: the result is %d", w.Result())
		}
	}
}

// P18.5.

// A net of chance loses and doubles questions and answers; Again tells what wasn't heard.
func TestItEnds(t *testing.T) {
	for seed := range 1000 {
		c := newChance(60000 + seed)
		pairs, parts := c.pairs(), c.parts()
		n := new(counter)
		w := fresh(t, pairs, name, parts, n.next)
		lost := c.Float64() * 0.9
		asked := map[uint64]api.Post{}
		var queue []api.Post
		take := func(l []api.Post) {
			for _, p := range l {
				if was, is := asked[p.Message.Req]; is && !samePost(was, p) {
					t.Fatalf("P18.5: a number is told twice, for %s and %s", short(was), short(p))
				}
				asked[p.Message.Req] = copyOf(p)
				for c.Float64() > lost {
					queue = append(queue, p)
				}
			}
		}
		take(w.Begin())
		for range 10000 {
			if w.Result() != pending {
				break
			}
			if len(queue) == 0 {
				take(w.Again())
				continue
			}
			i := c.Intn(len(queue))
			p := queue[i]
			queue = slices.Delete(queue, i, i+1)
			take(w.Receive(p.Part, answerTo(p)))
		}
		resultIs(t, "when all is answered", w, rsOK)
		tells(t, "Again at the end", w.Again())
		// Each partition twice, with numbers that next told, each once.
		times := map[int][]int{}
		for req := uint64(1); req <= n.told; req++ {
			p, is := asked[req]
			if !is {
				t.Fatalf("P18.5: the number %d was never asked with", req)
			}
			times[p.Part] = append(times[p.Part], p.Message.Kind)
		}
		if uint64(len(asked)) != n.told {
			t.Fatalf("P18.5: %d questions have %d numbers", len(asked), n.told)
		}
		for part, kinds := range times {
			if !slices.Equal(kinds, []int{kPrepare, kCommit}) {
				t.Fatalf("P18.5: partition %d was asked %d", part, kinds)
			}
		}
	}
}

// Without Again: each question that Begin and Receive tell is answered once.
func TestItEndsPlainly(t *testing.T) {
	for parts := 1; parts <= maxParts; parts++ {
		w := fresh(t, pairsOf(named(100)...), name, parts, numbers())
		queue, n := w.Begin(), 0
		for ; len(queue) > 0; n++ {
			resultIs(t, "while a question is open", w, pending)
			p := queue[0]
			queue = append(queue[1:], w.Receive(p.Part, answerTo(p))...)
		}
		resultIs(t, "when all is answered", w, rsOK)
		first, second := rounds(t, pairsOf(named(100)...), parts)
		if n != len(first)+len(second) {
			t.Fatalf("P18.5: %d questions over %d partitions, want %d", n, parts, len(first)+len(second))
		}
	}
}

// P18.6.

// Each list that is told is written full and lengthened; what is told later is as it was.
func TestToldIsNewMemory(t *testing.T) {
	w := exampleBegun(t)
	want := []api.Post{prepare(0, 1, pair("a", "1")), prepare(1, 2, pair("b", "2"))}
	for range 3 {
		got := w.Again()
		tells(t, "Again", got, want...)
		if !spoilOneByOne(got, want) {
			t.Fatalf("P18.6: posts of one answer share memory")
		}
	}
	w.Receive(0, prepared(1))
	for range 3 {
		got := w.Again()
		tells(t, "Again", got, want[1])
		spoilOneByOne(got, want[1:])
	}
	second := w.Receive(1, prepared(2))
	want = []api.Post{commit(0, 3), commit(1, 4)}
	for range 3 {
		tells(t, "the second round", second, want...)
		if !spoilOneByOne(second, want) {
			t.Fatalf("P18.6: posts of one answer share memory")
		}
		second = w.Again()
	}
	w.Receive(0, committed(3))
	tells(t, "Again", w.Again(), want[1])
	w.Receive(1, committed(4))
	resultIs(t, "behind all that", w, rsOK)
}

// What one answer told stays, whatever is done to the next one, and to the writer.
func TestToldStays(t *testing.T) {
	w := exampleBegun(t)
	first := w.Again()
	was := copies(first)
	next := w.Again()
	spoilOneByOne(next, was)
	tells(t, "an answer of Again, later", first, was...)
	w.Receive(0, prepared(1))
	second := w.Receive(1, prepared(2))
	then := copies(second)
	w.Receive(0, committed(3))
	w.Give()
	tells(t, "an answer of Again, at the end", first, was...)
	tells(t, "an answer of Receive, at the end", second, then...)
}

func TestHandedInIsNotKept(t *testing.T) {
	in := roomy(ab(), pair("spare", "s"))
	w := fresh(t, in, name, 4, numbers())
	if !slices.Equal(in, ab()) || !slices.Equal(in[2:5], []api.Pair{pair("spare", "s"), pair("spare", "s"), pair("spare", "s")}) {
		t.Fatalf("P18.6: New changed what it was handed: %s", short(in[:5]))
	}
	fill(in, pair("c", "3"))
	want := []api.Post{prepare(0, 1, pair("a", "1")), prepare(1, 2, pair("b", "2"))}
	tells(t, "Begin", w.Begin(), want...)
	fill(in, pair("d", "4"))
	tells(t, "Again", w.Again(), want...)
}

// Writers know nothing of one another, also with one function for their numbers.
func TestApart(t *testing.T) {
	for seed := range 200 {
		c := newChance(70000 + seed)
		pairs := c.pairs()
		next := numbers()
		a, b := fresh(t, pairs, name, 4, next), fresh(t, pairs, name+65536, 4, next)
		first := a.Begin()
		tells(t, "Again of the other", b.Again())
		other := b.Begin()
		for _, p := range first {
			tells(t, "an answer to the other", b.Receive(p.Part, answerTo(p)))
		}
		for _, p := range other {
			tells(t, "an answer to the other", a.Receive(p.Part, answerTo(p)))
		}
		tells(t, "Again", a.Again(), first...)
		tells(t, "Again", b.Again(), other...)
		a.Give()
		resultIs(t, "Give of the other", b, pending)
		tells(t, "Again", b.Again(), other...)
	}
}

func inUse() int64 {
	runtime.GC()
	runtime.GC()
	var m runtime.MemStats
	runtime.ReadMemStats(&m)
	return int64(m.HeapAlloc)
}

// A piece of a long text that is handed in doesn't keep all of it, neither in the writer nor in what it tells.
func TestNoLongTextIsKept(t *testing.T) {
	before := inUse()
	var writers []*Writer
	var told [][]api.Post
	for i := range 40 {
		long := strings.Repeat(fmt.Sprintf("%09d", i), 100000)
		w := fresh(t, []api.Pair{pair(long[:9], long[9:18]), pair(long[1:9], long[3:5])}, name, 4, numbers())
		writers, told = append(writers, w), append(told, w.Begin())
	}
	if grown := inUse() - before; grown > 4<<20 {
		t.Errorf("P18.6: %d bytes are kept", grown)
	}
	runtime.KeepAlive(writers)
	runtime.KeepAlive(told)
}

// Of what isn't told any more nothing is kept: the pairs in the second round, all questions at the end.
func TestNoMoreIsKept(t *testing.T) {
	var writers []*Writer
	before := inUse()
	for i := range 60 {
		var pairs []api.Pair
		for _, key := range named(40) {
			pairs = append(pairs, pair(key, strings.Repeat(key, 1000)))
		}
		w := fresh(t, pairs, name, 4, numbers())
		for _, p := range w.Begin() {
			w.Receive(p.Part, answerTo(p))
		}
		switch i % 3 {
		case 1:
			w.Give()
		case 2:
			w = fresh(t, pairs, name, 4, numbers())
			w.Begin()
			w.Give()
		}
		writers = append(writers, w)
	}
	if grown := inUse() - before; grown > 4<<20 {
		t.Errorf("P18.6: %d bytes are kept", grown)
	}
	runtime.KeepAlive(writers)
}

// Nor are the pairs of a question that is answered, while others of its round are open.
func TestAnsweredIsNotKept(t *testing.T) {
	var writers []*Writer
	before := inUse()
	for range 60 {
		long := strings.Repeat("x", 60000)
		w := fresh(t, []api.Pair{pair("a", ""), pair("b", long+"1"), pair("c", long+"2"), pair("d", long+"3")}, name, 4, numbers())
		for _, p := range w.Begin() {
			if p.Part != 0 {
				w.Receive(p.Part, answerTo(p))
			}
		}
		if open := w.Again(); len(open) != 1 || open[0].Part != 0 {
			t.Fatalf("P18.1: Again tells %s", short(open))
		}
		writers = append(writers, w)
	}
	if grown := inUse() - before; grown > 4<<20 {
		t.Errorf("P18.6: %d bytes are kept", grown)
	}
	runtime.KeepAlive(writers)
}

// The rules.

// The same calls in the same order on new writers give the same answers.
func TestOneOutcome(t *testing.T) {
	pairs := pairsOf(named(300)...)
	for parts := 1; parts <= maxParts; parts++ {
		first, second := rounds(t, pairs, parts)
		for range 3 {
			again, then := rounds(t, pairs, parts)
			if !samePosts(first, again) || !samePosts(second, then) {
				t.Fatalf("P18.1: over %d partitions there are two outcomes", parts)
			}
		}
	}
}

// A function for the numbers that calls the writer itself neither keeps a call from its end nor brings a commit ahead of its time.
func TestNextMayCallTheWriter(t *testing.T) {
	for which := range 5 {
		var w *Writer
		n := new(counter)
		next := func() uint64 {
			req := n.next()
			switch which {
			case 0:
				w.Begin()
			case 1:
				w.Again()
			case 2:
				w.Give()
			case 3:
				for part := range 4 {
					for r := range req + 1 {
						w.Receive(part, prepared(r))
					}
				}
			case 4:
				for part := range 4 {
					for r := range req + 1 {
						w.Receive(part, committed(r))
					}
				}
			}
			return req
		}
		w = fresh(t, ab(), name, 4, next)
		w.Begin()
		if n.told != 2 {
			t.Fatalf("P18.1: next %d was called %d times by Begin", which, n.told)
		}
		if which == 2 {
			resultIs(t, "Give in Begin", w, rsAborted)
			continue
		}
		tells(t, "Again", w.Again(), prepare(0, 1, pair("a", "1")), prepare(1, 2, pair("b", "2")))
		w.Receive(0, prepared(1))
		tells(t, "all prepared", w.Receive(1, prepared(2)), commit(0, 3), commit(1, 4))
		w.Receive(1, committed(4))
		w.Receive(0, committed(3))
		resultIs(t, "behind both rounds", w, rsOK)
	}
}

// A great write in the time that there is: 64 partitions, 1024 keys, asked again and again.
func TestGreat(t *testing.T) {
	w := fresh(t, pairsOf(named(maxSet)...), name, maxParts, numbers())
	first := w.Begin()
	for _, p := range first {
		if got := w.Again(); len(got) > 64 || len(got) == 0 || !samePost(got[0], p) {
			t.Fatalf("P18.1: Again tells %d questions, the first %s", len(got), short(got))
		}
		w.Receive(p.Part, answerTo(p))
	}
	second := w.Again()
	for range 200 {
		for _, p := range first {
			w.Receive(p.Part, answerTo(p))
		}
	}
	for _, p := range second {
		w.Receive(p.Part, answerTo(p))
	}
	resultIs(t, "a great write", w, rsOK)
}
