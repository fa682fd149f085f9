package reader

import (
	"fmt"
	"hash/fnv"
	"math"
	"math/rand"
	"runtime"
	"slices"
	"strings"
	"testing"

	"rampart/api"
	"rampart/disk"
	"rampart/fix"
	"rampart/part"
	"rampart/shard"
	"rampart/writer"
)

// The chapter's numbers, not api's.
const (
	kPrepare   = 1
	kCommit    = 2
	kLatest    = 3
	kByID      = 4
	kPrepared  = 5
	kCommitted = 6
	kVersions  = 7
	kNack      = 8

	pending   = 0
	rsOK      = 1
	rsStale   = 2
	rsAborted = 3

	errArg  = api.Errno(1)
	errKeys = api.Errno(40)

	one = api.ID(65536)
	two = api.ID(131072)

	me       = 3
	maxSet   = 1024
	maxParts = 64
	maxText  = 65535
)

// Versions, messages, posts.

func bottom(key string) api.Version { return api.Version{Key: key} }

// version is what a write of these keys put under one of them.
func version(key string, id api.ID, keys ...string) api.Version {
	return api.Version{Key: key, ID: id, Value: fmt.Sprint(key, " of ", id), Keys: keys}
}

func bottomsOf(keys ...string) []api.Version {
	var out []api.Version
	for _, key := range keys {
		out = append(out, bottom(key))
	}
	return out
}

// named are n keys, rising.
func named(n int) []string {
	out := make([]string, n)
	for i := range out {
		out[i] = fmt.Sprintf("k%05d", i)
	}
	return out
}

func latest(part int, req uint64, keys ...string) api.Post {
	return api.Post{Part: part, Message: api.Message{Kind: kLatest, Client: me, Req: req, Keys: keys}}
}

func byID(part int, req uint64, wants ...api.Want) api.Post {
	return api.Post{Part: part, Message: api.Message{Kind: kByID, Client: me, Req: req, Wants: wants}}
}

func want(key string, id api.ID) api.Want { return api.Want{Key: key, ID: id} }

func says(kind int, req uint64, versions ...api.Version) api.Message {
	return api.Message{Kind: kind, Client: me, Req: req, Versions: versions}
}

func brings(req uint64, v api.Version) api.Message { return says(kVersions, req, v) }

// asks are the keys that a question asks for.
func asks(m api.Message) []string {
	out := slices.Clone(m.Keys)
	for _, w := range m.Wants {
		out = append(out, w.Key)
	}
	return out
}

func sameVersion(a, b api.Version) bool {
	return a.Key == b.Key && a.ID == b.ID && a.Value == b.Value && slices.Equal(a.Keys, b.Keys)
}

func sameVersions(a, b []api.Version) bool { return slices.EqualFunc(a, b, sameVersion) }

func sameMessage(a, b api.Message) bool {
	return a.Kind == b.Kind && a.Client == b.Client && a.Req == b.Req && a.ID == b.ID && slices.Equal(a.Pairs, b.Pairs) &&
		slices.Equal(a.Keys, b.Keys) && slices.Equal(a.Wants, b.Wants) && sameVersions(a.Versions, b.Versions)
}

func samePost(a, b api.Post) bool { return a.Part == b.Part && sameMessage(a.Message, b.Message) }

func samePosts(a, b []api.Post) bool { return slices.EqualFunc(a, b, samePost) }

func copyVersion(v api.Version) api.Version {
	v.Keys = slices.Clone(v.Keys)
	return v
}

func copyVersions(l []api.Version) []api.Version {
	var out []api.Version
	for _, v := range l {
		out = append(out, copyVersion(v))
	}
	return out
}

func copyPost(p api.Post) api.Post {
	p.Message.Wants, p.Message.Keys = slices.Clone(p.Message.Wants), slices.Clone(p.Message.Keys)
	return p
}

func copyPosts(l []api.Post) []api.Post {
	var out []api.Post
	for _, p := range l {
		out = append(out, copyPost(p))
	}
	return out
}

// short is what is told of great things.
func short(x any) string {
	s := strings.ToValidUTF8(fmt.Sprintf("%+v", x), "?")
	if len(s) > 1500 {
		return s[:1500] + " .."
	}
	return s
}

// Numbers.

// counter tells 1, 2, .. and how many it told.
type counter struct{ told uint64 }

func (c *counter) next() uint64 {
	c.told++
	return c.told
}

func numbers() func() uint64 { return new(counter).next }

// counting is a function that tells these numbers from the first on, the last one ever after, and how often it was called.
func counting(tell []uint64) (func() uint64, *int) {
	n := new(int)
	return func() uint64 {
		i := min(*n, len(tell)-1)
		*n++
		return tell[i]
	}, n
}

func rising(n int) []uint64 {
	var out []uint64
	for i := range n {
		out = append(out, uint64(i+1))
	}
	return out
}

// The chapter's words, done slowly: everything that was ever told and everything that ever counted is written down, and
// each answer is reckoned from all of that.

type model struct {
	keys   []string
	parts  int
	client int
	next   func() uint64

	begun  bool
	given  bool
	first  []api.Post
	second []api.Post
	came   map[string]api.Version
}

func placeOf(key string, parts int) int {
	h := fnv.New64a()
	h.Write([]byte(key))
	return int(h.Sum64() % uint64(parts))
}

func goodKeys(l []string) bool {
	if len(l) < 1 || len(l) > maxSet {
		return false
	}
	seen := map[string]bool{}
	for _, key := range l {
		if seen[key] || len(key) > maxText {
			return false
		}
		seen[key] = true
	}
	return true
}

func newModel(keys []string, parts, client int, next func() uint64) (*model, api.Errno) {
	if parts < 1 || parts > maxParts || client < 0 || client > 65535 || next == nil {
		return nil, errArg
	}
	if !goodKeys(keys) {
		return nil, errKeys
	}
	return &model{keys: slices.Clone(keys), parts: parts, client: client, next: next, came: map[string]api.Version{}}, 0
}

func (x *model) begin() []api.Post {
	if x.begun || x.given {
		return nil
	}
	x.begun = true
	for part := range x.parts {
		m := api.Message{Kind: kLatest, Client: x.client}
		for _, key := range x.keys {
			if placeOf(key, x.parts) == part {
				m.Keys = append(m.Keys, key)
			}
		}
		if len(m.Keys) > 0 {
			m.Req = x.next()
			x.first = append(x.first, api.Post{Part: part, Message: m})
		}
	}
	return x.first
}

func mark(p api.Post, key string) string { return fmt.Sprint(p.Message.Kind, " for ", key) }

func (x *model) done(p api.Post) bool {
	for _, key := range asks(p.Message) {
		if _, has := x.came[mark(p, key)]; !has {
			return false
		}
	}
	return true
}

// open are the questions of a round that are not done.
func (x *model) open(round []api.Post) []api.Post {
	var out []api.Post
	for _, p := range round {
		if !x.done(p) {
			out = append(out, p)
		}
	}
	return out
}

// round are the questions of this round.
func (x *model) round() []api.Post {
	if len(x.second) > 0 {
		return x.second
	}
	return x.first
}

// brought are the versions of a round, in the order of these keys.
func (x *model) brought(kind int, keys []string) []api.Version {
	var out []api.Version
	for _, key := range keys {
		out = append(out, x.came[mark(api.Post{Message: api.Message{Kind: kind}}, key)])
	}
	return out
}

func (x *model) receive(part int, m api.Message) []api.Post {
	if x.result() != pending {
		return nil
	}
	for _, p := range x.round() {
		if m.Kind != kVersions || len(m.Versions) != 1 || p.Part != part || p.Message.Req != m.Req {
			continue
		}
		v := m.Versions[0]
		_, has := x.came[mark(p, v.Key)]
		if slices.Contains(asks(p.Message), v.Key) && !has {
			x.came[mark(p, v.Key)] = copyVersion(v)
		}
	}
	if !x.begun || len(x.second) > 0 || len(x.open(x.first)) > 0 {
		return nil
	}
	wants, _ := fix.Needs(x.brought(kLatest, x.keys))
	for n := range x.parts {
		q := api.Message{Kind: kByID, Client: x.client}
		for _, w := range wants {
			if placeOf(w.Key, x.parts) == n {
				q.Wants = append(q.Wants, w)
			}
		}
		if len(q.Wants) > 0 {
			q.Req = x.next()
			x.second = append(x.second, api.Post{Part: n, Message: q})
		}
	}
	return x.second
}

func (x *model) again() []api.Post {
	if x.result() != pending || !x.begun {
		return nil
	}
	return x.open(x.round())
}

func (x *model) give() {
	if x.result() == pending {
		x.given = true
	}
}

func (x *model) result() int {
	result, _ := x.outcome()
	return result
}

func (x *model) versions() []api.Version {
	_, versions := x.outcome()
	return versions
}

func (x *model) outcome() (int, []api.Version) {
	switch {
	case x.given:
		return rsAborted, nil
	case !x.begun || len(x.open(x.first)) > 0:
		return pending, nil
	}
	l := x.brought(kLatest, x.keys)
	wants, err := fix.Needs(l)
	if err != 0 {
		return rsStale, nil
	}
	if len(wants) == 0 {
		return rsOK, l
	}
	if len(x.second) == 0 || len(x.open(x.second)) > 0 {
		return pending, nil
	}
	var names []string
	for _, w := range wants {
		names = append(names, w.Key)
	}
	got := x.brought(kByID, names)
	for _, v := range got {
		if v.ID == 0 {
			return rsStale, nil
		}
	}
	mended, err := fix.Mend(l, got)
	if err != 0 {
		return rsStale, nil
	}
	return rsOK, mended
}

// Memory with spare room.

// roomy is a copy of a list with spare room behind it, in which something stands.
func roomy[T any](l []T, x T) []T {
	out := append(append(make([]T, 0, len(l)+3), l...), x, x, x)
	return out[:len(l)]
}

func roomyMessage(m api.Message) api.Message {
	m.Pairs, m.Keys = roomy(m.Pairs, api.Pair{Key: "spare"}), roomy(m.Keys, "spare")
	m.Wants, m.Versions = roomy(m.Wants, want("spare", 7)), roomy(m.Versions, bottom("spare"))
	for i := range m.Versions {
		m.Versions[i].Keys = roomy(m.Versions[i].Keys, "spare")
	}
	return m
}

// whole is a message with its lists up to the ends of their room.
func whole(m api.Message) api.Message {
	m.Pairs, m.Keys = m.Pairs[:cap(m.Pairs)], m.Keys[:cap(m.Keys)]
	m.Wants, m.Versions = m.Wants[:cap(m.Wants)], slices.Clone(m.Versions[:cap(m.Versions)])
	for i, v := range m.Versions {
		m.Versions[i].Keys = v.Keys[:cap(v.Keys)]
	}
	return m
}

// fill writes a list full, its spare room too.
func fill[T any](l []T, x T) {
	l = l[:cap(l)]
	for i := range l {
		l[i] = x
	}
}

// spoil writes over all that a message has, and lengthens its lists.
func spoil(m *api.Message) {
	for i := range m.Versions {
		spoilVersion(&m.Versions[i])
	}
	fill(m.Pairs, api.Pair{Key: "spoilt"})
	fill(m.Keys, "spoilt")
	fill(m.Wants, want("spoilt", 7))
	fill(m.Versions, bottom("spoilt"))
	*m = api.Message{
		Kind: -1, Client: -1, Req: 77, ID: 77,
		Pairs: append(m.Pairs, api.Pair{}), Keys: append(m.Keys, "spoilt!"),
		Wants: append(m.Wants, want("spoilt!", 7)), Versions: append(m.Versions, bottom("spoilt!")),
	}
}

func spoilVersion(v *api.Version) {
	fill(v.Keys, "spoilt")
	*v = api.Version{Key: "spoilt", ID: 77, Value: "spoilt", Keys: append(v.Keys, "spoilt!")}
}

// spoilOneByOne writes over each post of an answer: false, if one that comes later is another then than it ought to be.
func spoilOneByOne(l, ought []api.Post) bool {
	for i := range l {
		if !samePosts(l[i:], ought[i:]) {
			return false
		}
		spoil(&l[i].Message)
		l[i].Part = -77
	}
	fill(l, api.Post{Part: -7})
	_ = append(l, api.Post{Part: -8})
	return true
}

// spoilVersions does so to versions.
func spoilVersions(l, ought []api.Version) bool {
	for i := range l {
		if !sameVersions(l[i:], ought[i:]) {
			return false
		}
		spoilVersion(&l[i])
	}
	fill(l, bottom("spoilt"))
	_ = append(l, bottom("spoilt!"))
	return true
}

// A reader beside its model.

type twins struct {
	r      *Reader
	x      *model
	calls  *int
	asked  *int
	script []string
}

// newTwins makes both of a read; what is handed in is written over at once.
func newTwins(t *testing.T, keys []string, parts, client int, tell []uint64) *twins {
	t.Helper()
	next, calls := counting(tell)
	other, asked := counting(tell)
	in := roomy(keys, "spare")
	r, err := New(in, parts, client, next)
	if !slices.Equal(in[:cap(in)], append(slices.Clone(keys), "spare", "spare", "spare")) {
		t.Fatalf("P19.6: New changed what it was handed: %s", short(in[:cap(in)]))
	}
	fill(in, "spoilt")
	x, bad := newModel(keys, parts, client, other)
	if err != bad || (r == nil) != (err != 0) {
		t.Fatalf("P19.1: New(%s, %d, %d) = %v, %d, want %d", short(keys), parts, client, r != nil, err, bad)
	}
	g := &twins{r: r, x: x, calls: calls, asked: asked}
	if r != nil {
		g.script = append(g.script, fmt.Sprintf("New(%s, %d, %d)", short(keys), parts, client))
		g.looks(t)
	}
	return g
}

// looks holds what can be seen without a call that changes anything against the model.
func (g *twins) looks(t *testing.T) {
	t.Helper()
	result, versions := g.x.outcome()
	if got := g.r.Result(); got != result {
		t.Fatalf("P19.1: Result = %d, want %d, behind %q", got, result, g.script)
	}
	got := g.r.Versions()
	if !sameVersions(got, versions) {
		t.Fatalf("P19.1: Versions = %s, want %s, behind %q", short(got), short(versions), g.script)
	}
	if !spoilVersions(got, versions) {
		t.Fatalf("P19.6: versions of one answer share memory, behind %q", g.script)
	}
	if *g.calls != *g.asked {
		t.Fatalf("P19.1: next was called %d times, want %d, behind %q", *g.calls, *g.asked, g.script)
	}
}

func (g *twins) tells(t *testing.T, call string, got, want []api.Post) {
	t.Helper()
	g.script = append(g.script, call)
	if !samePosts(got, want) {
		t.Fatalf("P19.1: %s, want %s, behind %q", short(got), short(want), g.script)
	}
	if !spoilOneByOne(got, want) {
		t.Fatalf("P19.6: posts of one answer share memory, behind %q", g.script)
	}
	g.looks(t)
	// Once more: what was written over told the reader nothing.
	g.looks(t)
}

func (g *twins) begin(t *testing.T) {
	t.Helper()
	g.tells(t, "Begin", g.r.Begin(), g.x.begin())
}

func (g *twins) again(t *testing.T) {
	t.Helper()
	g.tells(t, "Again", g.r.Again(), g.x.again())
}

func (g *twins) give(t *testing.T) {
	t.Helper()
	g.r.Give()
	g.x.give()
	g.tells(t, "Give", nil, nil)
}

func (g *twins) receive(t *testing.T, part int, m api.Message) {
	t.Helper()
	in := roomyMessage(m)
	got := g.r.Receive(part, in)
	if !sameMessage(whole(in), whole(roomyMessage(m))) {
		t.Fatalf("P19.6: Receive changed what it was handed: %s", short(whole(in)))
	}
	spoil(&in)
	g.tells(t, fmt.Sprintf("Receive(%d, %s)", part, short(m)), got, g.x.receive(part, m))
}

// answer answers each key of a question as the writes have it.
func (g *twins) answer(t *testing.T, p api.Post, has func(p api.Post, key string) api.Version) {
	t.Helper()
	for _, key := range asks(p.Message) {
		g.receive(t, p.Part, brings(p.Message.Req, has(p, key)))
	}
}

// answerAll answers all questions of this round.
func (g *twins) answerAll(t *testing.T, has func(p api.Post, key string) api.Version) {
	t.Helper()
	for _, p := range copyPosts(g.x.again()) {
		g.answer(t, p, has)
	}
}

// The examples.

func tells(t *testing.T, what string, got []api.Post, want ...api.Post) {
	t.Helper()
	if !samePosts(got, want) {
		t.Fatalf("P19.1: %s: %s, want %s", what, short(got), short(want))
	}
}

// endsAs holds the result and what was read against what they ought to be.
func endsAs(t *testing.T, what string, r *Reader, result int, versions ...api.Version) {
	t.Helper()
	if got := r.Result(); got != result {
		t.Fatalf("P19.1: %s: Result = %d, want %d", what, got, result)
	}
	if got := r.Versions(); !sameVersions(got, versions) {
		t.Fatalf("P19.1: %s: Versions = %s, want %s", what, short(got), short(versions))
	}
}

func fresh(t *testing.T, next func() uint64, parts int, keys ...string) *Reader {
	t.Helper()
	r, err := New(keys, parts, me, next)
	if r == nil || err != 0 {
		t.Fatalf("P19.1: New(%s, %d) = %d", short(keys), parts, err)
	}
	endsAs(t, "behind New", r, pending)
	return r
}

// The write of the examples: a 1, b 2.
func exampleA() api.Version {
	return api.Version{Key: "a", ID: one, Value: "1", Keys: []string{"a", "b"}}
}

func exampleB() api.Version {
	return api.Version{Key: "b", ID: one, Value: "2", Keys: []string{"a", "b"}}
}

func exampleBegun(t *testing.T) *Reader {
	t.Helper()
	r := fresh(t, numbers(), 1, "a", "b")
	tells(t, "Begin", r.Begin(), latest(0, 1, "a", "b"))
	tells(t, "the first answer", r.Receive(0, brings(1, exampleA())))
	endsAs(t, "behind the first answer", r, pending)
	return r
}

func TestExampleOne(t *testing.T) {
	r := exampleBegun(t)
	tells(t, "the second answer", r.Receive(0, brings(1, exampleB())))
	endsAs(t, "behind both", r, rsOK, exampleA(), exampleB())
}

func TestExampleTwo(t *testing.T) {
	for _, gone := range []bool{false, true} {
		r := exampleBegun(t)
		tells(t, "the second answer", r.Receive(0, brings(1, bottom("b"))), byID(0, 2, want("b", one)))
		endsAs(t, "in the second round", r, pending)
		if gone {
			tells(t, "it is gone", r.Receive(0, brings(2, bottom("b"))))
			endsAs(t, "behind that", r, rsStale)
			continue
		}
		tells(t, "it is there", r.Receive(0, brings(2, exampleB())))
		endsAs(t, "behind that", r, rsOK, exampleA(), exampleB())
	}
}

func TestExampleThree(t *testing.T) {
	r := exampleBegun(t)
	tells(t, "Req 9", r.Receive(0, brings(9, exampleB())))
	tells(t, "from partition 1", r.Receive(1, brings(1, exampleB())))
	tells(t, "to a key that wasn't asked", r.Receive(0, brings(1, version("c", one, "c"))))
	tells(t, "a second one to a", r.Receive(0, brings(1, version("a", two, "a"))))
	endsAs(t, "behind all these", r, pending)
	tells(t, "Again", r.Again(), latest(0, 1, "a", "b"))
	r.Receive(0, brings(1, exampleB()))
	endsAs(t, "behind both", r, rsOK, exampleA(), exampleB())
}

func TestExampleFour(t *testing.T) {
	for _, c := range []struct {
		what  string
		keys  []string
		parts int
		next  func() uint64
		want  api.Errno
	}{
		{"a twice", []string{"a", "a"}, 1, numbers(), errKeys},
		{"parts 0", []string{"a", "b"}, 0, numbers(), errArg},
		{"next nil", []string{"a", "b"}, 1, nil, errArg},
	} {
		if r, err := New(c.keys, c.parts, me, c.next); r != nil || err != c.want {
			t.Errorf("P19.1: New with %s = %v, %d, want %d", c.what, r != nil, err, c.want)
		}
	}
	r := exampleBegun(t)
	r.Give()
	endsAs(t, "behind Give", r, rsAborted)
	tells(t, "an answer behind Give", r.Receive(0, brings(1, exampleB())))
	endsAs(t, "behind Give and an answer", r, rsAborted)
}

// New.

type keyList struct {
	keys []string
	good bool
}

// keyLists are lists of keys, each with whether it may be read.
func keyLists() map[string]keyList {
	long := strings.Repeat("x", maxText+1)
	backwards := named(maxSet)
	slices.Reverse(backwards)
	return map[string]keyList{
		"nil":                    {nil, false},
		"no keys":                {[]string{}, false},
		"the empty key":          {[]string{""}, true},
		"one key":                {[]string{"a"}, true},
		"two keys":               {[]string{"a", "b"}, true},
		"two keys, falling":      {[]string{"b", "a"}, true},
		"a key twice":            {[]string{"a", "a"}, false},
		"a key twice, far apart": {[]string{"a", "b", "a"}, false},
		"the empty key twice":    {[]string{"", "a", ""}, false},
		"a key of 65535 bytes":   {[]string{long[1:]}, true},
		"a key of 65536 bytes":   {[]string{long}, false},
		"such a key, the last":   {[]string{"a", "b", long}, false},
		"1024 keys":              {named(maxSet), true},
		"1024 keys, falling":     {backwards, true},
		"1024 keys, one twice":   {append(named(maxSet-1), "k00500"), false},
		"1025 keys":              {named(maxSet + 1), false},
		"100000 keys":            {make([]string, 100000), false},
	}
}

func TestNewArguments(t *testing.T) {
	called := 0
	next := func() uint64 {
		called++
		return 1
	}
	clients := []int{math.MinInt, -1, 0, 1, 3, 15, 16, 65534, 65535, 65536, 65537, math.MaxInt}
	parts := []int{math.MinInt, -1, 0, 1, 2, 3, 63, 64, 65, 66, 128, math.MaxInt}
	for what, l := range keyLists() {
		for _, client := range clients {
			for _, n := range parts {
				for _, f := range []func() uint64{next, nil} {
					want := api.Errno(0)
					switch {
					case n < 1 || n > 64 || client < 0 || client > 65535 || f == nil:
						want = errArg
					case !l.good:
						want = errKeys
					}
					r, err := New(l.keys, n, client, f)
					if err != want || (r == nil) != (err != 0) {
						t.Fatalf("P19.1: New(%s, %d, %d, %v) = %v, %d, want %d", what, n, client, f != nil, r != nil, err, want)
					}
					if r != nil {
						endsAs(t, what, r, pending)
					}
				}
			}
		}
	}
	if called != 0 {
		t.Errorf("P19.1: New called next %d times", called)
	}
}

// The edges that may be are read, from their first question to their end: once in one round, once in two.
func TestEdgesAreRead(t *testing.T) {
	for what, l := range keyLists() {
		if !l.good {
			continue
		}
		all := slices.Clone(l.keys)
		slices.Sort(all)
		for _, parts := range []int{1, 2, 63, 64} {
			for _, torn := range []bool{false, true} {
				has := func(p api.Post, key string) api.Version {
					if torn && p.Message.Kind == kLatest && key != l.keys[0] {
						return bottom(key)
					}
					return version(key, one, all...)
				}
				r := fresh(t, numbers(), parts, l.keys...)
				asked := ends(t, r, has)
				var want []api.Version
				for _, key := range l.keys {
					want = append(want, version(key, one, all...))
				}
				endsAs(t, what, r, rsOK, want...)
				if second := torn && len(l.keys) > 1; (asked[len(asked)-1].Message.Kind == kByID) != second {
					t.Fatalf("P19.1: %s over %d partitions, torn %v: the last question is %s", what, parts, torn, short(asked[len(asked)-1]))
				}
			}
		}
	}
}

// ends answers all questions of a read, key by key, and is what was asked.
func ends(t *testing.T, r *Reader, has func(p api.Post, key string) api.Version) []api.Post {
	t.Helper()
	asked := r.Begin()
	for i := 0; i < len(asked); i++ {
		p := asked[i]
		for _, key := range asks(p.Message) {
			if r.Result() != pending {
				t.Fatalf("P19.1: the read is %d ahead of all answers", r.Result())
			}
			asked = append(asked, r.Receive(p.Part, brings(p.Message.Req, has(p, key)))...)
		}
	}
	return asked
}

// All questions are asked in the client's name.
func TestClients(t *testing.T) {
	for _, client := range []int{0, 1, 3, 15, 16, 255, 256, 65534, 65535} {
		r, err := New([]string{"b", "a"}, 4, client, numbers())
		if err != 0 {
			t.Fatalf("P19.1: New for the client %d: %d", client, err)
		}
		asked := ends(t, r, tornAB)
		if len(asked) != 3 {
			t.Fatalf("P19.1: %d questions: %s", len(asked), short(asked))
		}
		for _, p := range asked {
			if p.Message.Client != client {
				t.Errorf("P19.1: the client %d asks as %d", client, p.Message.Client)
			}
		}
	}
}

// tornAB has the write of a and b committed for a alone.
func tornAB(p api.Post, key string) api.Version {
	if p.Message.Kind == kLatest && key != "a" {
		return bottom(key)
	}
	return version(key, one, "a", "b")
}

// What stands in fields that an answer doesn't need is not looked at.
func TestOtherFields(t *testing.T) {
	g := newTwins(t, []string{"b", "a"}, 4, me, rising(3))
	g.begin(t)
	odd := func(req uint64, v api.Version) api.Message {
		return api.Message{
			Kind: kVersions, Client: -5, Req: req, ID: 77, Pairs: []api.Pair{{Key: "z"}}, Keys: []string{"z", "a"},
			Wants: []api.Want{want("z", 5)}, Versions: []api.Version{v},
		}
	}
	g.receive(t, 0, odd(1, version("a", one, "a", "b")))
	g.receive(t, 1, odd(2, bottom("b")))
	g.receive(t, 1, odd(3, version("b", one, "a", "b")))
	endsAs(t, "answers with other fields", g.r, rsOK, version("b", one, "a", "b"), version("a", one, "a", "b"))
}

// next is called once for each question, in their order, when it is first told, and at no other time.
func TestNumbers(t *testing.T) {
	tell := []uint64{90, 4, 0, math.MaxUint64, 4, 17}
	next, calls := counting(tell)
	keys := []string{"c", "b", "a"}
	all := []string{"a", "b", "c", "x"}
	r := fresh(t, next, 4, keys...)
	calledIs := func(what string, want int) {
		t.Helper()
		if *calls != want {
			t.Fatalf("P19.1: %s next was called %d times, want %d", what, *calls, want)
		}
	}
	r.Again()
	for _, key := range keys {
		r.Receive(placeOf(key, 4), brings(0, bottom(key)))
	}
	calledIs("ahead of Begin", 0)
	tells(t, "Begin", r.Begin(), latest(0, 90, "a"), latest(1, 4, "b"), latest(2, 0, "c"))
	calledIs("behind Begin", 3)
	r.Begin()
	r.Again()
	r.Receive(0, brings(90, version("a", one, all...)))
	r.Receive(0, brings(90, version("a", one, all...)))
	r.Receive(2, brings(0, bottom("c")))
	r.Receive(1, says(kNack, 4))
	calledIs("in the first round", 3)
	tells(t, "the second round", r.Receive(1, brings(4, bottom("b"))), byID(1, math.MaxUint64, want("b", one)), byID(2, 4, want("c", one)))
	calledIs("in the second round", 5)
	r.Again()
	r.Begin()
	r.Receive(1, brings(math.MaxUint64, version("b", one, all...)))
	r.Receive(2, brings(4, version("c", one, all...)))
	endsAs(t, "behind all answers", r, rsOK, version("c", one, all...), version("b", one, all...), version("a", one, all...))
	r.Again()
	r.Begin()
	r.Give()
	calledIs("at the end", 5)
}

// A number that next tells again and again serves as well: a question is one of its partition and its round.
func TestOneNumber(t *testing.T) {
	all := []string{"a", "b", "c", "d"}
	for _, n := range []uint64{0, 1, 7, math.MaxUint64} {
		g := newTwins(t, []string{"d", "c", "b", "a"}, 4, me, []uint64{n})
		g.begin(t)
		for _, key := range all {
			for part := range 4 {
				if part != placeOf(key, 4) {
					g.receive(t, part, brings(n, version(key, two, key)))
				}
			}
			v := bottom(key)
			if key == "b" {
				v = version(key, one, all...)
			}
			g.receive(t, placeOf(key, 4), brings(n+1, v))
			g.receive(t, placeOf(key, 4), brings(n, v))
			if key != "d" {
				g.receive(t, placeOf(key, 4), brings(n, v))
			}
		}
		tells(t, "the second round", g.r.Again(), byID(0, n, want("a", one)), byID(2, n, want("c", one)), byID(3, n, want("d", one)))
		for _, key := range all {
			g.receive(t, placeOf(key, 4), brings(n, version(key, one, all...)))
		}
		if g.r.Result() != rsOK {
			t.Errorf("P19.5: with the number %d alone: Result = %d", n, g.r.Result())
		}
	}
}

// Each call in each phase.

// The read of the phases has four keys, out of order; over four partitions a is in 0, b and the empty key in 1, c in 2.
// The write one has all four.
func phaseKeys() []string { return []string{"b", "a", "", "c"} }

func ofOne(key string) api.Version { return version(key, one, "", "a", "b", "c") }

// atOnce has all keys of the write committed.
func atOnce(_ api.Post, key string) api.Version { return ofOne(key) }

// torn has a alone committed.
func torn(p api.Post, key string) api.Version {
	if p.Message.Kind == kLatest && key != "a" {
		return bottom(key)
	}
	return ofOne(key)
}

// gone has one of the versions that are fetched collected.
func gone(p api.Post, key string) api.Version {
	if p.Message.Kind == kByID && key == "" {
		return bottom(key)
	}
	return torn(p, key)
}

// odd is what fix refuses: an ID of no write.
func odd(p api.Post, key string) api.Version {
	if key == "b" {
		return version(key, 7, key)
	}
	return torn(p, key)
}

// other has another version than the one that is wanted.
func other(p api.Post, key string) api.Version {
	if p.Message.Kind == kByID && key == "c" {
		return version(key, two, "", "a", "b", "c")
	}
	return torn(p, key)
}

type step func(t *testing.T, g *twins)

func steps(l ...step) step {
	return func(t *testing.T, g *twins) {
		t.Helper()
		for _, f := range l {
			f(t, g)
		}
	}
}

func begin(t *testing.T, g *twins) { g.begin(t) }

func give(t *testing.T, g *twins) { g.give(t) }

func all(has func(p api.Post, key string) api.Version) step {
	return func(t *testing.T, g *twins) { g.answerAll(t, has) }
}

// some answers one key of this round.
func some(key string) step {
	return func(t *testing.T, g *twins) {
		for _, p := range copyPosts(g.x.again()) {
			if slices.Contains(asks(p.Message), key) {
				g.receive(t, p.Part, brings(p.Message.Req, torn(p, key)))
			}
		}
	}
}

type phase struct {
	what   string
	reach  step
	result int
	given  int
	again  []api.Post
}

// phases bring the read of the phases to where their names say; what is told there stands by hand.
func phases() []phase {
	first := []api.Post{latest(0, 1, "a"), latest(1, 2, "b", ""), latest(2, 3, "c")}
	second := []api.Post{byID(1, 4, want("b", one), want("", one)), byID(2, 5, want("c", one))}
	return []phase{
		{"ahead of Begin", steps(), pending, rsAborted, nil},
		{"in the first round", begin, pending, rsAborted, first},
		{"behind a part of a question's answers", steps(begin, some("b")), pending, rsAborted, first},
		{"behind one question", steps(begin, some("a")), pending, rsAborted, first[1:]},
		{"behind all but one key", steps(begin, some("a"), some(""), some("c")), pending, rsAborted, first[1:2]},
		{"in the second round", steps(begin, all(torn)), pending, rsAborted, second},
		{"behind a part of a second question's answers", steps(begin, all(torn), some("")), pending, rsAborted, second},
		{"behind one second question", steps(begin, all(torn), some("c")), pending, rsAborted, second[:1]},
		{"behind RsOK, in one round", steps(begin, all(atOnce)), rsOK, rsOK, nil},
		{"behind RsOK, in two rounds", steps(begin, all(torn), all(torn)), rsOK, rsOK, nil},
		{"behind RsStale: gone", steps(begin, all(torn), all(gone)), rsStale, rsStale, nil},
		{"behind RsStale: fix refuses what came", steps(begin, all(odd)), rsStale, rsStale, nil},
		{"behind RsStale: another version came", steps(begin, all(torn), all(other)), rsStale, rsStale, nil},
		{"behind RsAborted, ahead of Begin", give, rsAborted, rsAborted, nil},
		{"behind RsAborted, in the first round", steps(begin, some("b"), give), rsAborted, rsAborted, nil},
		{"behind RsAborted, in the second round", steps(begin, all(torn), some("b"), give), rsAborted, rsAborted, nil},
	}
}

func phaseTwins(t *testing.T) *twins {
	t.Helper()
	return newTwins(t, phaseKeys(), 4, me, rising(5))
}

func TestPhasesByHand(t *testing.T) {
	read := []api.Version{ofOne("b"), ofOne("a"), ofOne(""), ofOne("c")}
	versionsOf := func(result int) []api.Version {
		if result == rsOK {
			return read
		}
		return nil
	}
	for _, f := range phases() {
		g := phaseTwins(t)
		f.reach(t, g)
		endsAs(t, f.what, g.r, f.result, versionsOf(f.result)...)
		for range 2 {
			tells(t, f.what+": Again", g.r.Again(), f.again...)
		}
		if f.what != "ahead of Begin" {
			tells(t, f.what+": Begin", g.r.Begin())
			tells(t, f.what+": Again behind Begin", g.r.Again(), f.again...)
		}
		for range 2 {
			g.r.Give()
			endsAs(t, f.what+": behind Give", g.r, f.given, versionsOf(f.given)...)
			tells(t, f.what+": Again behind Give", g.r.Again())
			tells(t, f.what+": Begin behind Give", g.r.Begin())
			for part := range 4 {
				for req := range uint64(7) {
					for _, key := range phaseKeys() {
						tells(t, f.what+": an answer behind Give", g.r.Receive(part, brings(req, ofOne(key))))
						tells(t, f.what+": a bottom behind Give", g.r.Receive(part, brings(req, bottom(key))))
					}
				}
			}
			endsAs(t, f.what+": behind Give and answers", g.r, f.given, versionsOf(f.given)...)
		}
	}
}

type call struct {
	what string
	do   step
}

func receives(part int, m api.Message) call {
	return call{fmt.Sprintf("Receive(%d, %+v)", part, m), func(t *testing.T, g *twins) { g.receive(t, part, m) }}
}

// strayCalls are messages that never count, and such as count in one round alone or look like it.
func strayCalls() []call {
	var out []call
	for _, part := range []int{math.MinInt, -1, 0, 1, 2, 3, 4, 64, math.MaxInt} {
		for req := range uint64(7) {
			for _, v := range []api.Version{ofOne("b"), ofOne("a"), ofOne(""), bottom("c"), bottom(""), ofOne("d")} {
				out = append(out, receives(part, brings(req, v)))
			}
		}
	}
	for part := range 3 {
		for req := range uint64(6) {
			for kind := -1; kind < 10; kind++ {
				out = append(out, receives(part, says(kind, req)), receives(part, says(kind, req, ofOne("c"))))
			}
			for _, key := range phaseKeys() {
				out = append(out, receives(part, says(kVersions, req, ofOne(key), ofOne(key))), receives(part, says(kVersions, req, ofOne(key), bottom("z"))))
			}
		}
		out = append(out, receives(part, brings(math.MaxUint64, ofOne("b"))), receives(part, brings(1<<63, ofOne("a"))))
	}
	return out
}

func TestEachCallInEachPhase(t *testing.T) {
	calls := append(strayCalls(), call{"Begin", begin}, call{"Give", give}, call{"Again", func(t *testing.T, g *twins) { g.again(t) }})
	for _, f := range phases() {
		for _, c := range calls {
			g := phaseTwins(t)
			f.reach(t, g)
			for range 2 {
				c.do(t, g)
				g.again(t)
			}
			// It goes on as if nothing had been.
			g.begin(t)
			g.answerAll(t, torn)
			g.answerAll(t, torn)
			g.begin(t)
		}
	}
}

func TestBeginBehindGive(t *testing.T) {
	next, calls := counting(rising(4))
	r := fresh(t, next, 4, "a", "b")
	r.Give()
	tells(t, "Begin behind Give", r.Begin())
	tells(t, "Again behind Give", r.Again())
	endsAs(t, "behind Give and Begin", r, rsAborted)
	if *calls != 0 {
		t.Errorf("P19.1: next was called %d times for a read that was given up ahead of Begin", *calls)
	}
}

// An answer ahead of Begin is none, whatever number the questions will have.
func TestAnswersAheadOfBegin(t *testing.T) {
	for _, n := range []uint64{0, 1} {
		g := newTwins(t, phaseKeys(), 4, me, []uint64{n})
		for part := range 4 {
			for _, key := range phaseKeys() {
				g.receive(t, part, brings(n, ofOne(key)))
			}
		}
		g.again(t)
		g.begin(t)
		g.again(t)
		g.answerAll(t, torn)
		g.answerAll(t, torn)
	}
}

// An answer of the first round is none in the second, though it is of the right partition and key.
func TestFirstRoundInTheSecond(t *testing.T) {
	g := phaseTwins(t)
	g.begin(t)
	g.answerAll(t, torn)
	for range 2 {
		for _, p := range g.x.first {
			for _, key := range asks(p.Message) {
				g.receive(t, p.Part, brings(p.Message.Req, ofOne(key)))
				g.receive(t, p.Part, brings(p.Message.Req, bottom(key)))
			}
		}
	}
	endsAs(t, "behind answers of the first round", g.r, pending)
	g.answerAll(t, torn)
	endsAs(t, "behind those of the second", g.r, rsOK, ofOne("b"), ofOne("a"), ofOne(""), ofOne("c"))
}

// A key that isn't needed is none that the second round asks for, though its number and its partition are right.
func TestNotNeededInTheSecond(t *testing.T) {
	g := newTwins(t, []string{"b", ""}, 4, me, rising(3))
	g.begin(t)
	g.receive(t, 1, brings(1, version("b", one, "", "b")))
	g.receive(t, 1, brings(1, bottom("")))
	tells(t, "the second round", g.r.Again(), byID(1, 2, want("", one)))
	g.receive(t, 1, brings(2, version("b", one, "", "b")))
	endsAs(t, "behind an answer to another key", g.r, pending)
	g.receive(t, 1, brings(2, version("", one, "", "b")))
	endsAs(t, "behind the answer", g.r, rsOK, version("b", one, "", "b"), version("", one, "", "b"))
}

// The second round asks for what fix.Needs tells, in its order, by partitions.
func TestNeeds(t *testing.T) {
	wide := []string{"", "a", "b", "c", "d"}
	for _, c := range []struct {
		what  string
		keys  []string
		first []api.Version
		posts []api.Post
	}{
		{"nothing: all bottom", []string{"b", "a"}, bottomsOf("b", "a"), nil},
		{"nothing: all of one write", []string{"b", "a"}, []api.Version{version("b", one, wide...), version("a", one, wide...)}, nil},
		{"nothing: the write has no other key of the read", []string{"b", "a"}, []api.Version{version("b", one, "b", "c"), bottom("a")}, nil},
		{"nothing: above what is asked for", []string{"b", "a"}, []api.Version{version("b", two, "b"), version("a", one, "a", "b")}, nil},
		{"one key", []string{"b", "a"}, []api.Version{bottom("b"), version("a", one, "a", "b")}, []api.Post{byID(1, 3, want("b", one))}},
		{"the greater write", []string{"b", "a", "c"}, []api.Version{bottom("b"), version("a", one, "a", "b"), version("c", two, "b", "c")},
			[]api.Post{byID(1, 4, want("b", two))}},
		{"two writes", []string{"b", "a", "c", "d"}, []api.Version{bottom("b"), version("a", one, "a", "b"), bottom("c"), version("d", two, "c", "d")},
			[]api.Post{byID(1, 5, want("b", one)), byID(2, 6, want("c", two))}},
		{"some keys of one partition", []string{"b", "a", ""}, []api.Version{bottom("b"), version("a", one, wide...), bottom("")},
			[]api.Post{byID(1, 3, want("b", one), want("", one))}},
		{"in another order", []string{"", "a", "b"}, []api.Version{bottom(""), version("a", one, wide...), bottom("b")},
			[]api.Post{byID(1, 3, want("", one), want("b", one))}},
		{"keys of several partitions", []string{"d", "", "c", "b", "a"}, []api.Version{bottom("d"), bottom(""), version("c", one, wide...), bottom("b"), bottom("a")},
			[]api.Post{byID(0, 5, want("a", one)), byID(1, 6, want("", one), want("b", one)), byID(3, 7, want("d", one))}},
	} {
		g := newTwins(t, c.keys, 4, me, rising(10))
		g.begin(t)
		has := func(p api.Post, key string) api.Version { return c.first[slices.Index(c.keys, key)] }
		g.answerAll(t, has)
		tells(t, c.what, g.r.Again(), c.posts...)
		if len(c.posts) == 0 {
			endsAs(t, c.what, g.r, rsOK, c.first...)
		} else {
			endsAs(t, c.what, g.r, pending)
		}
	}
}

// What fix refuses, in either round, is RsStale, and not ahead of the last answer.
func TestRefusedByFix(t *testing.T) {
	good := version("a", one, "a", "b")
	many := append([]string{"b"}, named(maxSet)...)
	for what, b := range map[string]api.Version{
		"an ID below 65536":       version("b", 65535, "b"),
		"an ID of 1":              version("b", 1, "b"),
		"bottom with a value":     {Key: "b", Value: "x"},
		"bottom with keys":        {Key: "b", Keys: []string{"b"}},
		"no keys":                 version("b", two),
		"keys without its own":    version("b", two, "a"),
		"keys that fall":          version("b", two, "b", "a"),
		"a key twice":             version("b", two, "b", "b"),
		"1025 keys":               version("b", two, many...),
		"other keys of one write": version("b", one, "b"),
	} {
		for _, last := range []string{"a", "b"} {
			g := newTwins(t, []string{"a", "b"}, 4, me, rising(4))
			g.begin(t)
			if last == "a" {
				g.receive(t, 1, brings(2, b))
				endsAs(t, what, g.r, pending)
				g.receive(t, 0, brings(1, good))
			} else {
				g.receive(t, 0, brings(1, good))
				endsAs(t, what, g.r, pending)
				g.receive(t, 1, brings(2, b))
			}
			endsAs(t, what, g.r, rsStale)
			if *g.calls != 2 {
				t.Errorf("P19.1: %s: next was called %d times", what, *g.calls)
			}
		}
	}
	g := newTwins(t, []string{"b"}, 4, me, rising(1))
	g.begin(t)
	g.receive(t, 1, brings(1, version("b", two, many[:maxSet]...)))
	endsAs(t, "1024 keys", g.r, rsOK, version("b", two, many[:maxSet]...))
}

// A second round with a version of the ID 0, or of another ID than the one that is wanted: RsStale, when all have come.
func TestSecondRoundEndsStale(t *testing.T) {
	for what, bad := range map[string]func(key string) api.Version{
		"gone":                bottom,
		"gone, with the rest": func(key string) api.Version { return version(key, 0, "", "a", "b", "c") },
		"a later write":       func(key string) api.Version { return version(key, two, "", "a", "b", "c") },
		"an ID of no write":   func(key string) api.Version { return version(key, 7, "", "a", "b", "c") },
	} {
		order := []struct {
			part int
			req  uint64
			key  string
		}{{1, 4, "b"}, {1, 4, ""}, {2, 5, "c"}}
		orders(3, func(places []int) {
			for which := range 1 << 3 {
				g := phaseTwins(t)
				g.begin(t)
				g.answerAll(t, torn)
				for i, n := range places {
					endsAs(t, what, g.r, pending)
					v := ofOne(order[n].key)
					if which>>n&1 == 1 {
						v = bad(order[n].key)
					}
					g.receive(t, order[n].part, brings(order[n].req, v))
					if i < 2 {
						endsAs(t, what, g.r, pending)
					}
				}
				if which == 0 {
					endsAs(t, what, g.r, rsOK, ofOne("b"), ofOne("a"), ofOne(""), ofOne("c"))
				} else {
					endsAs(t, what, g.r, rsStale)
				}
			}
		})
	}
}

// Mend takes a version by its key and ID: what else it holds is told as it came.
func TestMendedAsItCame(t *testing.T) {
	g := newTwins(t, []string{"b", "a"}, 4, me, rising(3))
	g.begin(t)
	g.answerAll(t, tornAB)
	came := api.Version{Key: "b", ID: one, Value: "other", Keys: []string{"z", "y"}}
	g.receive(t, 1, brings(3, came))
	endsAs(t, "with other keys", g.r, rsOK, came, version("a", one, "a", "b"))
}

// Scripts.

// plainCalls are those that a read of a and b over four partitions, with the numbers 1 to 3, may see in its life.
func plainCalls() []call {
	return []call{
		{"Begin", begin},
		{"Again", func(t *testing.T, g *twins) { g.again(t) }},
		{"Give", give},
		receives(0, brings(1, version("a", one, "a", "b"))),
		receives(1, brings(2, bottom("b"))),
		receives(1, brings(3, version("b", one, "a", "b"))),
		receives(1, brings(3, bottom("b"))),
	}
}

func shortTwins(t *testing.T) *twins {
	t.Helper()
	return newTwins(t, []string{"b", "a"}, 4, me, rising(3))
}

// scripts hands on all rows of n calls.
func scripts(calls []call, n int, f func(script []call)) {
	script := make([]call, n)
	var lay func(i int)
	lay = func(i int) {
		if i == n {
			f(script)
			return
		}
		for _, c := range calls {
			script[i] = c
			lay(i + 1)
		}
	}
	lay(0)
}

func TestShortScripts(t *testing.T) {
	scripts(plainCalls(), 5, func(script []call) {
		g := shortTwins(t)
		for _, c := range script {
			c.do(t, g)
		}
	})
}

// From the first round on, with one partition: several keys of one question.
func TestShortScriptsBehindBegin(t *testing.T) {
	calls := []call{
		{"Again", func(t *testing.T, g *twins) { g.again(t) }}, {"Give", give},
		receives(0, brings(1, version("a", one, "a", "b", "c"))), receives(0, brings(1, bottom("b"))), receives(0, brings(1, bottom("c"))),
		receives(0, brings(2, version("b", one, "a", "b", "c"))), receives(0, brings(2, bottom("c"))),
	}
	scripts(calls, 5, func(script []call) {
		g := newTwins(t, []string{"c", "a", "b"}, 1, me, rising(2))
		g.begin(t)
		for _, c := range script {
			c.do(t, g)
		}
	})
}

func TestShortScriptsInEachPhase(t *testing.T) {
	calls := []call{
		{"Begin", begin}, {"Again", func(t *testing.T, g *twins) { g.again(t) }}, {"Give", give},
		receives(0, brings(1, ofOne("a"))), receives(1, brings(2, bottom("b"))), receives(1, brings(2, ofOne(""))),
		receives(2, brings(3, bottom("c"))), receives(1, brings(4, ofOne("b"))), receives(1, brings(4, ofOne(""))),
		receives(2, brings(5, ofOne("c"))), receives(2, brings(5, bottom("c"))),
	}
	for _, f := range phases() {
		scripts(calls, 3, func(script []call) {
			g := phaseTwins(t)
			f.reach(t, g)
			for _, c := range script {
				c.do(t, g)
			}
		})
	}
}

// Chance.

type chance struct{ *rand.Rand }

func newChance(seed int) chance { return chance{rand.New(rand.NewSource(int64(seed)))} }

func pick[T any](c chance, l ...T) T { return l[c.Intn(len(l))] }

func (c chance) text() string {
	b := make([]byte, c.Intn(4))
	for i := range b {
		b[i] = pick(c, byte(0), 'a', 'b', 'c', 0x7f, 0x80, 0xff)
	}
	return string(b)
}

// keys are some that may be read, in any order.
func (c chance) keys() []string {
	var out []string
	for range 1 + c.Intn(pick(c, 2, 4, 8, 40)) {
		if key := c.text(); !slices.Contains(out, key) {
			out = append(out, key)
		}
	}
	return out
}

func (c chance) parts() int { return pick(c, 1, 2, 3, 4, 7, 8, 63, 64, 1+c.Intn(64)) }

// tell are numbers that next may tell.
func (c chance) tell() []uint64 {
	out := rising(140)
	switch c.Intn(4) {
	case 0:
		slices.Reverse(out)
	case 1:
		for i := range out {
			out[i] = uint64(c.Intn(3))
		}
	case 2:
		for i := range out {
			out[i] = c.Uint64()
		}
	}
	return out
}

// A write, with the keys that it has.
type write struct {
	id   api.ID
	keys []string
}

func (w write) version(key string) api.Version { return version(key, w.id, w.keys...) }

// writes are some of these keys and of others.
func (c chance) writes(keys []string) []write {
	var out []write
	for i := range c.Intn(6) {
		var own []string
		for range 1 + c.Intn(6) {
			own = append(own, pick(c, pick(c, keys...), c.text()))
		}
		slices.Sort(own)
		out = append(out, write{id: api.ID(uint64(i+1)*65536 + uint64(c.Intn(16))), keys: slices.Compact(own)})
	}
	return out
}

// has is what a partition of chance has for a key: bottom, or the version of a write that has it.
func (c chance) has(writes []write, key string) api.Version {
	v := bottom(key)
	for _, w := range writes {
		if c.Intn(2) == 0 && slices.Contains(w.keys, key) {
			v = w.version(key)
		}
	}
	return v
}

// versionOf is the version that a question asks for by name.
func versionOf(writes []write, p api.Post, key string) api.Version {
	for _, w := range p.Message.Wants {
		for _, write := range writes {
			if w.Key == key && w.ID == write.id {
				return write.version(key)
			}
		}
	}
	return bottom(key)
}

// answerTo is an answer to one key of a question; now and then one that no partition of ours makes, if odd.
func (c chance) answerTo(writes []write, p api.Post, odd bool) api.Message {
	key := pick(c, asks(p.Message)...)
	v := c.has(writes, key)
	if p.Message.Kind == kByID && (!odd || c.Intn(12) > 0) {
		v = versionOf(writes, p, key)
	}
	if odd && c.Intn(60) == 0 {
		v.Keys = pick(c, nil, []string{key}, []string{key, "b"}, []string{c.text()})
	}
	if odd && c.Intn(60) == 0 {
		v.ID = pick(c, 0, 1, 7, 65535, 65536, v.ID+1, math.MaxUint64)
	}
	return brings(p.Message.Req, v)
}

// stray is a message much like an answer to a question.
func (c chance) stray(writes []write, p api.Post) (int, api.Message) {
	part, m := p.Part, c.answerTo(writes, p, true)
	for range 1 + c.Intn(2) {
		switch c.Intn(5) {
		case 0:
			part = pick(c, -1, 0, 1, part+1, part-1, c.Intn(64), 64)
		case 1:
			m.Req = pick(c, 0, m.Req+1, m.Req-1, uint64(c.Intn(140)), c.Uint64())
		case 2:
			m.Kind = pick(c, -1, 0, kPrepare, kCommit, kLatest, kByID, kPrepared, kCommitted, kNack, 9)
		case 3:
			m.Versions = append(m.Versions, c.has(writes, c.text()))
		case 4:
			m.Versions = pick(c, nil, []api.Version{c.has(writes, c.text())})
		}
	}
	return part, m
}

func (g *twins) step(t *testing.T, c chance, writes []write) {
	known := append(slices.Clone(g.x.first), g.x.second...)
	switch n := c.Intn(60); {
	case n == 0 && c.Intn(3) == 0:
		g.give(t)
	case n < 3 || len(known) == 0:
		g.begin(t)
	case n < 6:
		g.again(t)
	case n < 12:
		p := pick(c, known...)
		g.receive(t, p.Part, c.answerTo(writes, p, true))
	case n < 20:
		part, m := c.stray(writes, pick(c, known...))
		g.receive(t, part, m)
	default:
		if open := g.x.again(); len(open) > 0 {
			p := pick(c, open...)
			g.receive(t, p.Part, c.answerTo(writes, p, true))
		}
	}
}

func TestScriptsByChance(t *testing.T) {
	results, seconds := map[int]int{}, 0
	for seed := range 4000 {
		c := newChance(seed)
		keys := c.keys()
		writes := c.writes(keys)
		g := newTwins(t, keys, c.parts(), pick(c, 0, me, 65535, c.Intn(65536)), c.tell())
		for range 5 + c.Intn(8*len(keys)+20) {
			g.step(t, c, writes)
		}
		results[g.r.Result()]++
		if len(g.x.second) > 1 {
			seconds++
		}
	}
	for _, result := range []int{pending, rsOK, rsStale, rsAborted} {
		if results[result] < 100 {
			t.Errorf("the scripts of chance end %v: too few %d", results, result)
		}
	}
	if seconds < 100 {
		t.Errorf("%d scripts of chance ask several partitions in their second round: too few", seconds)
	}
}

func TestWrongReadsByChance(t *testing.T) {
	for seed := range 2000 {
		c := newChance(10000 + seed)
		keys, parts, client := c.keys(), c.parts(), c.Intn(65536)
		switch c.Intn(4) {
		case 0:
			keys = slices.Insert(keys, c.Intn(len(keys)+1), pick(c, keys...))
		case 1:
			client = pick(c, -1-c.Intn(100), 65536+c.Intn(100))
		case 2:
			parts = pick(c, -c.Intn(100), 65+c.Intn(100))
		case 3:
			keys = slices.Insert(keys, c.Intn(len(keys)+1), c.text()+strings.Repeat("l", maxText))
			parts = pick(c, 0, parts)
		}
		newTwins(t, keys, parts, client, c.tell())
	}
}

// P19.2, counted apart from the model.

type counted struct {
	keys  []string
	parts int
	seen  map[uint64]api.Post
	kinds map[int][]int
}

func newCounted(keys []string, parts int) *counted {
	return &counted{keys, parts, map[uint64]api.Post{}, map[int][]int{}}
}

// sees takes what a reader told; a question that was told ahead is told as it was.
func (o *counted) sees(t *testing.T, l []api.Post) {
	t.Helper()
	for _, p := range l {
		was, is := o.seen[p.Message.Req]
		if is && !samePost(was, p) {
			t.Fatalf("P19.2: one number for %s and for %s", short(was), short(p))
		}
		if is {
			continue
		}
		o.seen[p.Message.Req] = copyPost(p)
		o.kinds[p.Part] = append(o.kinds[p.Part], p.Message.Kind)
		asked := asks(p.Message)
		if len(asked) == 0 {
			t.Fatalf("P19.2: a question for nothing: %s", short(p))
		}
		for _, key := range asked {
			if n, err := shard.Of(key, o.parts); err != 0 || n != p.Part || !slices.Contains(o.keys, key) {
				t.Fatalf("P19.2: partition %d is asked for %q, a key of partition %d", p.Part, key, n)
			}
		}
	}
}

// ended holds all questions of a read against the numbers that next told.
func (o *counted) ended(t *testing.T, told uint64) {
	t.Helper()
	for req := uint64(1); req <= told; req++ {
		if _, is := o.seen[req]; !is {
			t.Fatalf("P19.2: the number %d was never asked with", req)
		}
	}
	if uint64(len(o.seen)) != told {
		t.Fatalf("P19.2: %d questions have numbers of %d", len(o.seen), told)
	}
	for part, kinds := range o.kinds {
		if !slices.Equal(kinds, []int{kLatest}) && !slices.Equal(kinds, []int{kLatest, kByID}) {
			t.Fatalf("P19.2: partition %d was asked %d", part, kinds)
		}
	}
}

// P19.3.

// orders hands on all orders of the numbers below n.
func orders(n int, f func(order []int)) {
	order := make([]int, 0, n)
	var lay func()
	lay = func() {
		if len(order) == n {
			f(order)
			return
		}
		for i := range n {
			if !slices.Contains(order, i) {
				order = append(order, i)
				lay()
				order = order[:len(order)-1]
			}
		}
	}
	lay()
}

type arrival struct {
	part int
	m    api.Message
}

// arrivals are the answers to all keys of a round.
func arrivals(round []api.Post, has func(p api.Post, key string) api.Version) []arrival {
	var out []arrival
	for _, p := range round {
		for _, key := range asks(p.Message) {
			out = append(out, arrival{p.Part, brings(p.Message.Req, has(p, key))})
		}
	}
	return out
}

// comeIn hands a round's answers over in an order, with what comes between them; all that is told then.
func comeIn(r *Reader, l []arrival, order []int, between func(i int)) []api.Post {
	var out []api.Post
	for i, n := range order {
		between(i)
		out = append(out, r.Receive(l[n].part, l[n].m)...)
	}
	return out
}

func inTurn(n int) []int {
	var out []int
	for i := range n {
		out = append(out, i)
	}
	return out
}

// plainly is a read whose answers come in turn: both rounds, its result and its versions.
func plainly(t *testing.T, keys []string, parts int, has func(p api.Post, key string) api.Version) (first, second []api.Post, result int, versions []api.Version) {
	t.Helper()
	r := fresh(t, numbers(), parts, keys...)
	first = r.Begin()
	l := arrivals(first, has)
	second = comeIn(r, l, inTurn(len(l)), func(int) {})
	l = arrivals(second, has)
	tells(t, "the second round's answers", comeIn(r, l, inTurn(len(l)), func(int) {}))
	return first, second, r.Result(), r.Versions()
}

func TestAnyOrder(t *testing.T) {
	keys := []string{"b", "a", "", "c"}
	for what, has := range map[string]func(p api.Post, key string) api.Version{"one round": atOnce, "two": torn, "gone": gone, "odd": odd, "other": other} {
		first, second, result, versions := plainly(t, keys, 4, has)
		l, then := arrivals(first, has), arrivals(second, has)
		orders(len(l), func(order []int) {
			orders(len(then), func(later []int) {
				r := fresh(t, numbers(), 4, keys...)
				tells(t, "Begin", r.Begin(), first...)
				tells(t, fmt.Sprint(what, " in the order ", order), comeIn(r, l, order, func(int) {}), second...)
				tells(t, fmt.Sprint(what, " in the orders ", order, later), comeIn(r, then, later, func(int) {}))
				endsAs(t, fmt.Sprint("P19.3: ", what, " in the orders ", order, later), r, result, versions...)
			})
		})
	}
}

func TestAnyOften(t *testing.T) {
	results := map[int]int{}
	for seed := range 2000 {
		c := newChance(50000 + seed)
		keys, parts := c.keys(), c.parts()
		writes := c.writes(keys)
		said := map[string]api.Version{}
		has := func(p api.Post, key string) api.Version {
			n := mark(p, key)
			if _, is := said[n]; !is {
				said[n] = c.has(writes, key)
				if p.Message.Kind == kByID && c.Intn(20) > 0 {
					said[n] = versionOf(writes, p, key)
				}
			}
			return said[n]
		}
		first, second, result, versions := plainly(t, keys, parts, has)
		r := fresh(t, numbers(), parts, keys...)
		tells(t, "Begin", r.Begin(), first...)
		// noise comes between: what was answered, again, as it was and with another version; what was never asked;
		// answers of the other round.
		noise := func(round, other []arrival, order []int) func(i int) {
			return func(i int) {
				for range c.Intn(3) {
					if i > 0 {
						a := round[order[c.Intn(i)]]
						tells(t, "an answer again", r.Receive(a.part, a.m))
						tells(t, "another one", r.Receive(a.part, brings(a.m.Req, version(a.m.Versions[0].Key, two, a.m.Versions[0].Key))))
					}
					a := round[order[i]]
					v := a.m.Versions[0]
					for _, m := range []api.Message{
						says(kNack, a.m.Req), says(kNack, a.m.Req, v), says(kPrepared, a.m.Req, v), says(kVersions, a.m.Req),
						says(kVersions, a.m.Req, v, v), brings(a.m.Req+1000, v), brings(a.m.Req, bottom("never asked")),
					} {
						tells(t, "a stray", r.Receive(a.part, m))
					}
					tells(t, "from another", r.Receive(a.part+1, a.m))
					tells(t, "from none", r.Receive(a.part-64, a.m))
					if len(other) > 0 {
						b := pick(c, other...)
						tells(t, "of the other round", r.Receive(b.part, b.m))
					}
				}
			}
		}
		l, then := arrivals(first, has), arrivals(second, has)
		order, later := c.Perm(len(l)), c.Perm(len(then))
		tells(t, "all of the first round", comeIn(r, l, order, noise(l, then, order)), second...)
		tells(t, "all of the second round", comeIn(r, then, later, noise(then, l, later)))
		endsAs(t, fmt.Sprint("P19.3: seed ", seed), r, result, versions...)
		results[result]++
	}
	if results[rsOK] < 100 || results[rsStale] < 20 || results[pending] > 0 {
		t.Errorf("the reads end %v", results)
	}
}

// P19.4.

// place is a stand-in for all partitions: versions that were prepared, and each key's last.
type place struct {
	prepared map[api.Want]api.Version
	last     map[string]api.ID
}

func newPlace() *place { return &place{map[api.Want]api.Version{}, map[string]api.ID{}} }

func (s *place) prepare(w write, key string) { s.prepared[want(key, w.id)] = w.version(key) }

func (s *place) commit(w write, key string) { s.last[key] = max(s.last[key], w.id) }

func (s *place) has(p api.Post, key string) api.Version {
	id := s.last[key]
	for _, w := range p.Message.Wants {
		if w.Key == key {
			id = w.ID
		}
	}
	if v, is := s.prepared[want(key, id)]; is {
		return v
	}
	return bottom(key)
}

// isWhole holds what was read against the writes: a cut, by fix and by its words, of versions as the writes made them.
func isWhole(t *testing.T, what string, keys []string, writes []write, got []api.Version) {
	t.Helper()
	if len(got) != len(keys) || !fix.Cut(got) {
		t.Fatalf("P19.4: %s: %s is no cut", what, short(got))
	}
	for i, v := range got {
		ok := sameVersion(v, bottom(keys[i]))
		for _, w := range writes {
			ok = ok || w.id == v.ID && slices.Contains(w.keys, keys[i]) && sameVersion(v, w.version(keys[i]))
		}
		if !ok {
			t.Fatalf("P19.4: %s: nobody wrote %s", what, short(v))
		}
		for _, x := range got {
			if slices.Contains(x.Keys, v.Key) && v.ID < x.ID {
				t.Fatalf("P19.4: %s: %s is below %s", what, short(v), short(x))
			}
		}
	}
}

// Two writes that have a key in common, all their commits and the first round's answers in every order.
func TestWholeInEveryOrder(t *testing.T) {
	writes := []write{{one, []string{"a", "b"}}, {two, []string{"b", "c"}}}
	keys := []string{"b", "a", "c"}
	seconds := 0
	orders(7, func(order []int) {
		s := newPlace()
		for _, w := range writes {
			for _, key := range w.keys {
				s.prepare(w, key)
			}
		}
		r := fresh(t, numbers(), 4, keys...)
		first := r.Begin()
		var second []api.Post
		for _, n := range order {
			if n < 4 {
				s.commit(writes[n/2], writes[n/2].keys[n%2])
				continue
			}
			p := first[n-4]
			for _, key := range asks(p.Message) {
				second = append(second, r.Receive(p.Part, brings(p.Message.Req, s.has(p, key)))...)
			}
		}
		for _, p := range second {
			seconds++
			for _, key := range asks(p.Message) {
				r.Receive(p.Part, brings(p.Message.Req, s.has(p, key)))
			}
		}
		if r.Result() != rsOK {
			t.Fatalf("P19.4: in the order %d the result is %d", order, r.Result())
		}
		isWhole(t, fmt.Sprint("in the order ", order), keys, writes, r.Versions())
	})
	if seconds < 500 {
		t.Errorf("%d second questions: too few", seconds)
	}
}

// underWay is a write that goes its way: all its keys are prepared, one by one, then all are committed.
type underWay struct {
	write
	prepares, commits []string
}

func (w *underWay) goesOn(s *place) {
	switch {
	case len(w.prepares) > 0:
		s.prepare(w.write, w.prepares[0])
		w.prepares = w.prepares[1:]
	case len(w.commits) > 0:
		s.commit(w.write, w.commits[0])
		w.commits = w.commits[1:]
	}
}

func (c chance) mixed(l []string) []string {
	out := slices.Clone(l)
	c.Shuffle(len(out), func(i, j int) { out[i], out[j] = out[j], out[i] })
	return out
}

// copies is how many of a frame arrive.
func (c chance) copies(lost float64) int {
	if c.Float64() < lost {
		return 0
	}
	return pick(c, 1, 1, 1, 2, 3)
}

// P19.2, P19.4 and P19.5 together: writes go on while the read's questions and answers are lost, doubled and late. A
// version that is asked for by name may be gone, if it isn't its key's last.
func TestReadsAmongWrites(t *testing.T) {
	results, seconds := map[int]int{}, 0
	for seed := range 4000 {
		c := newChance(60000 + seed)
		keys, parts := c.keys(), c.parts()
		writes := c.writes(keys)
		s := newPlace()
		var going []*underWay
		for _, w := range writes {
			going = append(going, &underWay{w, c.mixed(w.keys), c.mixed(w.keys)})
		}
		n := new(counter)
		r := fresh(t, n.next, parts, keys...)
		watch := newCounted(keys, parts)
		lost, collects := c.Float64()*0.8, c.Intn(3) == 0
		var queue []api.Post
		var answers []arrival
		take := func(l []api.Post) {
			watch.sees(t, l)
			for _, p := range l {
				for range c.copies(lost) {
					queue = append(queue, p)
				}
			}
		}
		take(r.Begin())
		for range 100000 {
			if r.Result() != pending {
				break
			}
			for len(going) > 0 && c.Intn(3) == 0 {
				pick(c, going...).goesOn(s)
			}
			switch {
			case len(queue) > 0 && c.Intn(2) == 0:
				p := queue[0]
				queue = queue[1:]
				for _, a := range arrivals([]api.Post{p}, s.has) {
					// A version that is gone is below its key's last.
					if v := a.m.Versions[0]; collects && p.Message.Kind == kByID && v.ID < s.last[v.Key] && c.Intn(2) == 0 {
						a.m.Versions[0] = bottom(v.Key)
					}
					for range c.copies(lost) {
						answers = append(answers, a)
					}
				}
			case len(answers) > 0:
				i := c.Intn(len(answers))
				a := answers[i]
				answers = slices.Delete(answers, i, i+1)
				take(r.Receive(a.part, a.m))
			case len(queue) == 0:
				take(r.Again())
			}
		}
		results[r.Result()]++
		watch.ended(t, n.told)
		tells(t, "Again at the end", r.Again())
		if r.Result() == rsOK {
			isWhole(t, fmt.Sprint("seed ", seed), keys, writes, r.Versions())
		}
		if r.Result() == rsStale && !collects {
			t.Fatalf("P19.1: seed %d: RsStale, though nothing was gone", seed)
		}
		for _, kinds := range watch.kinds {
			if len(kinds) == 2 {
				seconds++
			}
		}
	}
	if results[pending] > 0 || results[rsOK] < 3000 || results[rsStale] < 5 || seconds < 300 {
		t.Errorf("P19.5: the reads end %v, with %d second questions", results, seconds)
	}
}

// Writers, partitions and readers as they are built: frames come in any order, and each read that ends well is whole.
func TestReadsOfPartitions(t *testing.T) {
	const parts = 4
	results, seconds := map[int]int{}, 0
	for seed := range 1500 {
		c := newChance(80000 + seed)
		keys := c.keys()
		retain := pick(c, 0, 1, 5, 1000)
		var servers []*part.Part
		for i := range parts {
			p, err := part.Open(disk.New(), i, api.Config{Parts: parts, Retain: int64(retain)})
			if err != 0 {
				t.Fatalf("part.Open: %d", err)
			}
			servers = append(servers, p)
		}
		req := new(counter)
		type machine interface {
			Begin() []api.Post
			Receive(part int, m api.Message) []api.Post
			Result() int
		}
		var machines []machine
		writes := c.writes(keys)
		for _, w := range writes {
			var pairs []api.Pair
			for _, key := range w.keys {
				pairs = append(pairs, api.Pair{Key: key, Value: w.version(key).Value})
			}
			x, err := writer.New(pairs, w.id, parts, req.next)
			if err != 0 {
				t.Fatalf("writer.New: %d", err)
			}
			machines = append(machines, x)
		}
		var readers []*Reader
		for range 4 {
			r, err := New(keys, parts, c.Intn(16), req.next)
			if err != 0 {
				t.Fatalf("P19.1: New: %d", err)
			}
			readers, machines = append(readers, r), append(machines, r)
		}
		var questions []api.Post
		var answers []arrival
		waiting := c.Perm(len(machines))
		for len(waiting)+len(questions)+len(answers) > 0 {
			switch c.Intn(5) {
			case 0:
				if len(waiting) > 0 {
					questions = append(questions, machines[waiting[0]].Begin()...)
					waiting = waiting[1:]
				}
			case 1, 2:
				if len(questions) > 0 {
					i := c.Intn(len(questions))
					p := questions[i]
					questions = slices.Delete(questions, i, i+1)
					back, err := servers[p.Part].Handle(p.Message)
					if err != 0 {
						t.Fatalf("P19.1: a partition refuses %s: %d", short(p), err)
					}
					for _, m := range back {
						answers = append(answers, arrival{p.Part, m})
					}
					if p.Message.Kind == kByID {
						seconds++
					}
				}
			case 3:
				if len(answers) > 0 {
					i := c.Intn(len(answers))
					a := answers[i]
					answers = slices.Delete(answers, i, i+1)
					for _, x := range machines {
						questions = append(questions, x.Receive(a.part, a.m)...)
					}
				}
			case 4:
				servers[c.Intn(parts)].Tick()
			}
		}
		for i, x := range machines {
			if x.Result() == pending {
				t.Fatalf("P19.5: seed %d: machine %d is pending when all is answered", seed, i)
			}
		}
		for _, r := range readers {
			results[r.Result()]++
			if r.Result() == rsOK {
				isWhole(t, fmt.Sprint("seed ", seed), keys, writes, r.Versions())
			}
		}
	}
	if results[rsOK] < 1000 || results[rsStale] < 1 || results[rsAborted] > 0 || seconds < 100 {
		t.Errorf("the reads end %v, with %d second questions", results, seconds)
	}
}

// P19.5.

// Without Again: each key of each question that Begin and Receive tell is answered once.
func TestItEndsPlainly(t *testing.T) {
	keys := named(100)
	for parts := 1; parts <= maxParts; parts++ {
		for _, even := range []bool{true, false} {
			// One write of all keys, committed for every other one.
			has := func(p api.Post, key string) api.Version {
				if p.Message.Kind == kLatest && (key[5]%2 == 0) == even {
					return bottom(key)
				}
				return version(key, one, keys...)
			}
			n := new(counter)
			r := fresh(t, n.next, parts, keys...)
			watch := newCounted(keys, parts)
			watch.sees(t, ends(t, r, has))
			watch.ended(t, n.told)
			var want []api.Version
			for _, key := range keys {
				want = append(want, version(key, one, keys...))
			}
			endsAs(t, fmt.Sprint("P19.5: over ", parts), r, rsOK, want...)
		}
	}
}

// Whatever the answers hold: when all keys are answered, the read is not pending.
func TestItEndsWithAnything(t *testing.T) {
	results := map[int]int{}
	for seed := range 2000 {
		c := newChance(90000 + seed)
		keys, parts := c.keys(), c.parts()
		writes := c.writes(keys)
		r := fresh(t, numbers(), parts, keys...)
		ends(t, r, func(p api.Post, key string) api.Version {
			v := c.has(writes, key)
			switch {
			case c.Intn(30) == 0:
				v = api.Version{Key: key, ID: api.ID(c.Intn(200000)), Value: c.text(), Keys: c.keys()}
			case p.Message.Kind == kByID:
				v = versionOf(writes, p, key)
			}
			return v
		})
		results[r.Result()]++
	}
	if results[pending] > 0 || results[rsOK] < 100 || results[rsStale] < 100 {
		t.Errorf("P19.5: the reads end %v", results)
	}
}

// P19.6.

// Each list that is told is written full and lengthened; what is told later is as it was.
func TestToldIsNewMemory(t *testing.T) {
	first := []api.Post{latest(0, 1, "a"), latest(1, 2, "b", ""), latest(2, 3, "c")}
	second := []api.Post{byID(1, 4, want("b", one), want("", one)), byID(2, 5, want("c", one))}
	r := fresh(t, numbers(), 4, phaseKeys()...)
	spoils := func(what string, got, want []api.Post) {
		t.Helper()
		for range 3 {
			tells(t, what, got, want...)
			if !spoilOneByOne(got, want) {
				t.Fatalf("P19.6: %s: posts of one answer share memory", what)
			}
			got = r.Again()
		}
	}
	spoils("Begin", r.Begin(), first)
	r.Receive(1, brings(2, bottom("b")))
	spoils("Again, with a part of a question answered", r.Again(), first)
	r.Receive(0, brings(1, ofOne("a")))
	spoils("Again, with one question done", r.Again(), first[1:])
	r.Receive(1, brings(2, bottom("")))
	spoils("the second round", r.Receive(2, brings(3, bottom("c"))), second)
	r.Receive(2, brings(5, ofOne("c")))
	spoils("Again in the second round", r.Again(), second[:1])
	r.Receive(1, brings(4, ofOne("b")))
	r.Receive(1, brings(4, ofOne("")))
	read := []api.Version{ofOne("b"), ofOne("a"), ofOne(""), ofOne("c")}
	for range 3 {
		endsAs(t, "behind all that", r, rsOK, read...)
		if !spoilVersions(r.Versions(), read) {
			t.Fatal("P19.6: versions of one answer share memory")
		}
	}
}

// Versions of one write that came in one round have lists of their own, too.
func TestVersionsShareNothing(t *testing.T) {
	for _, has := range []func(p api.Post, key string) api.Version{atOnce, torn} {
		r := fresh(t, numbers(), 4, phaseKeys()...)
		ends(t, r, has)
		read := []api.Version{ofOne("b"), ofOne("a"), ofOne(""), ofOne("c")}
		was := r.Versions()
		for range 3 {
			if !spoilVersions(r.Versions(), read) {
				t.Fatal("P19.6: versions of one answer share memory")
			}
			endsAs(t, "behind that", r, rsOK, read...)
		}
		if !sameVersions(was, read) {
			t.Fatalf("P19.6: two answers share memory: %s", short(was))
		}
	}
}

// What one answer told stays, whatever is done to the next one, and to the reader.
func TestToldStays(t *testing.T) {
	r := fresh(t, numbers(), 4, phaseKeys()...)
	first := r.Begin()
	was := copyPosts(first)
	spoilOneByOne(r.Again(), was)
	tells(t, "what Begin told, later", first, was...)
	var second []api.Post
	for _, a := range arrivals(was, torn) {
		second = append(second, r.Receive(a.part, a.m)...)
	}
	then := copyPosts(second)
	spoilOneByOne(r.Again(), then)
	for _, a := range arrivals(then, torn) {
		r.Receive(a.part, a.m)
	}
	r.Give()
	tells(t, "what Begin told, at the end", first, was...)
	tells(t, "what Receive told, at the end", second, then...)
}

// What is handed in is written over at once; the read goes on with what it was.
func TestHandedInIsNotKept(t *testing.T) {
	in := roomy([]string{"b", "a"}, "spare")
	r := fresh(t, numbers(), 4, in...)
	fill(in, "spoilt")
	tells(t, "Begin", r.Begin(), latest(0, 1, "a"), latest(1, 2, "b"))
	tells(t, "Again", r.Again(), latest(0, 1, "a"), latest(1, 2, "b"))
	for _, a := range []arrival{{0, brings(1, version("a", one, "a", "b"))}, {1, brings(2, bottom("b"))}, {1, brings(3, version("b", one, "a", "b"))}} {
		m := roomyMessage(a.m)
		r.Receive(a.part, m)
		if !sameMessage(whole(m), whole(roomyMessage(a.m))) {
			t.Fatalf("P19.6: Receive changed what it was handed: %s", short(whole(m)))
		}
		spoil(&m)
	}
	endsAs(t, "behind that", r, rsOK, version("b", one, "a", "b"), version("a", one, "a", "b"))
}

// Readers know nothing of one another, also with one function for their numbers.
func TestApart(t *testing.T) {
	for seed := range 200 {
		c := newChance(70000 + seed)
		keys := c.keys()
		next := numbers()
		a, b := fresh(t, next, 4, keys...), fresh(t, next, 4, keys...)
		first := a.Begin()
		tells(t, "Again of the other", b.Again())
		later := b.Begin()
		has := func(_ api.Post, key string) api.Version { return bottom(key) }
		for _, x := range arrivals(first, has) {
			tells(t, "an answer to the other", b.Receive(x.part, x.m))
		}
		for _, x := range arrivals(later, has) {
			tells(t, "an answer to the other", a.Receive(x.part, x.m))
		}
		tells(t, "Again", a.Again(), first...)
		tells(t, "Again", b.Again(), later...)
		a.Give()
		endsAs(t, "Give of the other", b, pending)
		tells(t, "Again", b.Again(), later...)
		for _, x := range arrivals(later, has) {
			b.Receive(x.part, x.m)
		}
		endsAs(t, "at the end", b, rsOK, bottomsOf(keys...)...)
		endsAs(t, "the other at the end", a, rsAborted)
	}
}

func inUse() int64 {
	runtime.GC()
	runtime.GC()
	var m runtime.MemStats
	runtime.ReadMemStats(&m)
	return int64(m.HeapAlloc)
}

// A piece of a long text that is handed in doesn't keep all of it, neither in the reader nor in what it tells.
func TestNoLongTextIsKept(t *testing.T) {
	before := inUse()
	var readers []*Reader
	var told [][]api.Post
	var versions [][]api.Version
	for i := range 40 {
		text := func() string { return strings.Repeat(fmt.Sprintf("%09d", i), 100000) }
		long := text()
		r := fresh(t, numbers(), 4, long[:9], long[1:9])
		has := func(p api.Post, key string) api.Version {
			piece := text()
			own := []string{piece[:9], piece[1:9]}
			slices.Sort(own)
			v := api.Version{Key: piece[9-len(key) : 9], ID: one, Value: piece[3:5], Keys: own}
			if p.Message.Kind == kLatest && i%2 == 0 && len(key) == 9 {
				v = api.Version{Key: v.Key}
			}
			return v
		}
		asked := ends(t, r, has)
		if r.Result() != rsOK {
			t.Fatalf("P19.1: the read is %d", r.Result())
		}
		readers, told, versions = append(readers, r), append(told, asked), append(versions, r.Versions())
		half := fresh(t, numbers(), 4, long[:9], long[1:9])
		asked = half.Begin()
		half.Receive(asked[0].Part, brings(1, has(asked[0], asks(asked[0].Message)[0])))
		readers = append(readers, half)
	}
	if grown := inUse() - before; grown > 4<<20 {
		t.Errorf("P19.6: %d bytes are kept", grown)
	}
	runtime.KeepAlive(readers)
	runtime.KeepAlive(told)
	runtime.KeepAlive(versions)
}

// Of what isn't told any more nothing is kept: behind RsStale and RsAborted neither questions nor versions.
func TestNoMoreIsKept(t *testing.T) {
	var readers []*Reader
	keys := []string{"a", "b", "c"}
	before := inUse()
	for i := range 60 {
		r := fresh(t, numbers(), 4, keys...)
		has := func(p api.Post, key string) api.Version {
			if p.Message.Kind == kByID || key == "b" && i%2 == 0 {
				return bottom(key)
			}
			v := version(key, one, keys...)
			v.Value = strings.Repeat(key, 60000)
			if key == "c" {
				v.Keys = []string{"odd"}[:i%2]
			}
			return v
		}
		if i%3 == 0 {
			p := r.Begin()[0]
			r.Receive(p.Part, brings(p.Message.Req, has(p, asks(p.Message)[0])))
			r.Give()
		} else {
			ends(t, r, has)
		}
		if n := r.Result(); n != rsStale && n != rsAborted {
			t.Fatalf("P19.1: the read is %d", n)
		}
		readers = append(readers, r)
	}
	if grown := inUse() - before; grown > 2<<20 {
		t.Errorf("P19.6: %d bytes are kept", grown)
	}
	runtime.KeepAlive(readers)
}

// Each version of a great write brings all its keys: the reader keeps them once.
func TestGreatWritesKeysAreKeptOnce(t *testing.T) {
	text := strings.Repeat("x", 1000)
	var keys []string
	for i := range 500 {
		keys = append(keys, fmt.Sprintf("%04d%s", i, text))
	}
	// As if each message were read from a frame of its own.
	apart := func(key string) api.Version {
		v := api.Version{Key: key, ID: one, Value: "v"}
		for _, k := range keys {
			v.Keys = append(v.Keys, strings.Clone(k))
		}
		return v
	}
	for _, second := range []bool{false, true} {
		before := inUse()
		r := fresh(t, numbers(), 8, keys...)
		ends(t, r, func(p api.Post, key string) api.Version {
			if second && p.Message.Kind == kLatest && key != keys[0] {
				return bottom(key)
			}
			return apart(key)
		})
		if r.Result() != rsOK || !sameVersions(r.Versions()[499:], []api.Version{apart(keys[499])}) {
			t.Fatalf("P19.1: the read is %d", r.Result())
		}
		if grown := inUse() - before; grown > 16<<20 {
			t.Errorf("P19.6: %d bytes are kept", grown)
		}
		runtime.KeepAlive(r)
	}
}

// What the second round brings is of writes whose keys the first one brought.
func TestFetchedKeysAreKeptOnce(t *testing.T) {
	const writes = 40
	text := strings.Repeat("x", 1000)
	// The write i has the keys a i and b i, of which a alone is committed, and 300 long ones that are not read.
	of := func(key string) api.Version {
		n := key[1:]
		v := api.Version{Key: key, Value: "v", Keys: []string{"a" + n, "b" + n}}
		for i := range 300 {
			v.Keys = append(v.Keys, fmt.Sprintf("c%s%03d%s", n, i, text))
		}
		for i := range writes {
			if fmt.Sprintf("%02d", i) == n {
				v.ID = api.ID(i+1) * one
			}
		}
		return v
	}
	var keys []string
	for i := range writes {
		keys = append(keys, fmt.Sprintf("a%02d", i), fmt.Sprintf("b%02d", i))
	}
	before := inUse()
	r := fresh(t, numbers(), 1, keys...)
	var second []api.Post
	for _, a := range arrivals(r.Begin(), func(p api.Post, key string) api.Version {
		if key[0] == 'b' {
			return bottom(key)
		}
		return of(key)
	}) {
		second = append(second, r.Receive(a.part, a.m)...)
	}
	wants := asks(second[0].Message)
	if len(wants) != writes {
		t.Fatalf("P19.1: the second round asks for %s", short(second))
	}
	for _, key := range wants[1:] {
		r.Receive(0, brings(2, of(key)))
	}
	if grown := inUse() - before; grown > 18<<20 {
		t.Errorf("P19.6: %d bytes are kept", grown)
	}
	r.Receive(0, brings(2, of(wants[0])))
	if r.Result() != rsOK || !fix.Cut(r.Versions()) {
		t.Errorf("P19.4: the read is %d", r.Result())
	}
}

// The rules.

// The same calls in the same order on new readers give the same answers.
func TestOneOutcome(t *testing.T) {
	keys := named(300)
	has := func(p api.Post, key string) api.Version {
		if p.Message.Kind == kLatest && key[5]%3 != 0 {
			return bottom(key)
		}
		return version(key, one, keys...)
	}
	for parts := 1; parts <= maxParts; parts += 7 {
		first, second, result, versions := plainly(t, keys, parts, has)
		for range 3 {
			again, then, ended, read := plainly(t, keys, parts, has)
			if !samePosts(first, again) || !samePosts(second, then) || result != ended || !sameVersions(versions, read) {
				t.Fatalf("P19.1: over %d partitions there are two outcomes", parts)
			}
		}
	}
}

// A function for the numbers that calls the reader itself neither keeps a call from its end nor ends a read ahead of its time.
func TestNextMayCallTheReader(t *testing.T) {
	for which := range 4 {
		var r *Reader
		n := new(counter)
		next := func() uint64 {
			req := n.next()
			switch which {
			case 0:
				r.Begin()
			case 1:
				r.Again()
			case 2:
				for part := range 4 {
					for q := range req + 1 {
						r.Receive(part, brings(q, bottom("a")))
						r.Receive(part, brings(q, bottom("b")))
					}
				}
			case 3:
				if req > 2 {
					r.Give()
				}
			}
			return req
		}
		r = fresh(t, next, 4, "a", "b")
		tells(t, "Begin", r.Begin(), latest(0, 1, "a"), latest(1, 2, "b"))
		tells(t, "Again", r.Again(), latest(0, 1, "a"), latest(1, 2, "b"))
		r.Receive(0, brings(1, version("a", one, "a", "b")))
		second := r.Receive(1, brings(2, bottom("b")))
		if which == 3 {
			endsAs(t, "given up by next", r, rsAborted)
			tells(t, "Again", r.Again())
			continue
		}
		tells(t, "the second round", second, byID(1, 3, want("b", one)))
		r.Receive(1, brings(3, version("b", one, "a", "b")))
		endsAs(t, "behind both rounds", r, rsOK, version("a", one, "a", "b"), version("b", one, "a", "b"))
	}
}

// great is a read of 1024 keys of that length, all alike but for their ends, asked again and again.
func great(t *testing.T, parts, length int, has func(p api.Post, key string, keys []string) api.Version) {
	t.Helper()
	text := strings.Repeat("x", length-4)
	var keys []string
	for i := range maxSet {
		keys = append(keys, fmt.Sprintf("%s%04d", text, i))
	}
	r := fresh(t, numbers(), parts, keys...)
	asked := r.Begin()
	for i := 0; i < len(asked); i++ {
		for range 3 {
			if got := r.Again(); len(got) > maxParts || len(got) == 0 || !samePost(got[0], asked[i]) {
				t.Fatalf("P19.1: Again tells %d questions", len(got))
			}
		}
		for _, key := range asks(asked[i].Message) {
			asked = append(asked, r.Receive(asked[i].Part, brings(asked[i].Message.Req, has(asked[i], key, keys)))...)
		}
	}
	if r.Result() != rsOK || len(r.Versions()) != maxSet || !fix.Cut(r.Versions()) {
		t.Errorf("P19.4: a great read is %d", r.Result())
	}
}

// Great reads in the time that there is: of a great write, in two rounds; of the longest keys.
func TestGreat(t *testing.T) {
	for _, parts := range []int{1, maxParts} {
		great(t, parts, 900, func(p api.Post, key string, keys []string) api.Version {
			if p.Message.Kind == kLatest && key != keys[1] {
				return bottom(key)
			}
			return api.Version{Key: key, ID: one, Value: "v", Keys: keys}
		})
		writes := 0
		great(t, parts, maxText, func(_ api.Post, key string, _ []string) api.Version {
			writes++
			return api.Version{Key: key, ID: api.ID(writes) * one, Value: "v", Keys: []string{key}}
		})
	}
}
