package history_test

import (
	"fmt"
	"math"
	"math/rand"
	"slices"
	"strings"

	"rampart/api"
)

// The chapter's numbers, not api's.
const (
	ok     = api.Errno(0)
	errArg = api.Errno(1)
	errBad = api.Errno(2)

	evWrite  = 1
	evRead   = 2
	evAnswer = 3

	rsOK        = 1
	rsStale     = 2
	rsAborted   = 3
	rsUnknown   = 4
	rsInvalid   = 5
	rsExhausted = 6
)

func pair(key, value string) api.Pair { return api.Pair{Key: key, Value: value} }

func version(key string, id api.ID, value string, keys ...string) api.Version {
	return api.Version{Key: key, ID: id, Value: value, Keys: keys}
}

func bottom(key string) api.Version { return api.Version{Key: key} }

func write(client, txn int, id api.ID, pairs ...api.Pair) api.Event {
	return api.Event{Kind: evWrite, Client: client, Txn: txn, ID: id, Pairs: pairs}
}

func read(client, txn int, keys ...string) api.Event {
	return api.Event{Kind: evRead, Client: client, Txn: txn, Keys: keys}
}

func answer(client, txn, result int, id api.ID, versions ...api.Version) api.Event {
	return api.Event{Kind: evAnswer, Client: client, Txn: txn, Answer: api.Answer{Txn: txn, Result: result, ID: id, Versions: versions}}
}

func list(l ...api.Event) []api.Event { return l }

// Events are equal whether their empty lists are nil or not.
func sameVersion(a, b api.Version) bool {
	return a.Key == b.Key && a.ID == b.ID && a.Value == b.Value && slices.Equal(a.Keys, b.Keys)
}

func sameAnswer(a, b api.Answer) bool {
	return a.Txn == b.Txn && a.Result == b.Result && a.ID == b.ID && slices.EqualFunc(a.Versions, b.Versions, sameVersion)
}

func sameEvent(a, b api.Event) bool {
	return a.Kind == b.Kind && a.Client == b.Client && a.Txn == b.Txn && a.ID == b.ID && slices.Equal(a.Pairs, b.Pairs) && slices.Equal(a.Keys, b.Keys) && sameAnswer(a.Answer, b.Answer)
}

func same(a, b []api.Event) bool { return slices.EqualFunc(a, b, sameEvent) }

// show is a list of events for a message.
func show(l []api.Event) string {
	var parts []string
	for _, e := range l {
		parts = append(parts, fmt.Sprintf("{kind %d client %d txn %d id %d pairs %q keys %q answer %q}", e.Kind, e.Client, e.Txn, e.ID, e.Pairs, e.Keys, fmt.Sprint(e.Answer)))
	}
	if len(parts) > 12 {
		parts = append(parts[:12], "..")
	}
	return strings.Join(parts, " ")
}

// What stands in the spare room of what is handed in.
var (
	markText    = "a mark"
	markPair    = pair("a mark", "of a pair")
	markVersion = version("a mark", 7, "of a version", "k")
	markEvent   = answer(3, 3, 3, 3, markVersion)
)

const spare = 3

// withRoom is a copy of a list, with marks in its spare room.
func withRoom[T any](l []T, mark T) []T {
	out := append(make([]T, 0, len(l)+spare), l...)
	for range spare {
		out = append(out, mark)
	}
	return out[:len(l)]
}

// roomy is a copy of events, each list of it with marked spare room.
func roomy(l []api.Event) []api.Event {
	out := withRoom(l, markEvent)
	for i, e := range out {
		out[i].Pairs = withRoom(e.Pairs, markPair)
		out[i].Keys = withRoom(e.Keys, markText)
		versions := withRoom(e.Answer.Versions, markVersion)
		for j, v := range versions {
			versions[j].Keys = withRoom(v.Keys, markText)
		}
		out[i].Answer.Versions = versions
	}
	return out
}

func hasRoom[T any](l []T, isMark func(T) bool) bool {
	for _, v := range l[len(l) : len(l)+spare] {
		if !isMark(v) {
			return false
		}
	}
	return true
}

// isRoomy tells whether a list that roomy made is what it was, the marks too.
func isRoomy(l, was []api.Event) bool {
	isText := func(s string) bool { return s == markText }
	whole := same(l, was) && hasRoom(l, func(e api.Event) bool { return sameEvent(e, markEvent) })
	for _, e := range l {
		whole = whole && hasRoom(e.Pairs, func(p api.Pair) bool { return p == markPair }) && hasRoom(e.Keys, isText)
		whole = whole && hasRoom(e.Answer.Versions, func(v api.Version) bool { return sameVersion(v, markVersion) })
		for _, v := range e.Answer.Versions {
			whole = whole && hasRoom(v.Keys, isText)
		}
	}
	return whole
}

// fill writes a list and its spare room full, and lengthens it.
func fill[T any](l []T, v T) {
	l = l[:cap(l)]
	for i := range l {
		l[i] = v
	}
	_ = append(l, v, v, v)
}

func spoilEvent(e api.Event) {
	fill(e.Pairs, pair("spoilt", "spoilt"))
	fill(e.Keys, "spoilt")
	for _, v := range e.Answer.Versions {
		fill(v.Keys, "spoilt")
	}
	fill(e.Answer.Versions, version("spoilt", 9, "spoilt", "spoilt"))
}

// spoil writes over all that a list of events is made of.
func spoil(l []api.Event) {
	for _, e := range l {
		spoilEvent(e)
	}
	fill(l, api.Event{Kind: -7, Client: -7, Txn: -7, ID: 7, Keys: []string{"spoilt"}})
}

// chance makes events and lists of them.
type chance struct{ *rand.Rand }

func newChance(seed int) chance { return chance{rand.New(rand.NewSource(int64(seed)))} }

func pick[T any](c chance, l ...T) T { return l[c.Intn(len(l))] }

func (c chance) oneIn(n int) bool { return c.Intn(n) == 0 }

func (c chance) text() string {
	if c.oneIn(3) {
		return pick(c, "", "a", "b", "a", "0", "%", "=")
	}
	b := make([]byte, c.Intn(4))
	for i := range b {
		b[i] = byte(c.Intn(256))
		if c.oneIn(2) {
			b[i] = pick[byte](c, 0, 10, 32, 33, 34, 35, 37, 48, 61, 65, 97, 126, 127, 128, 200, 255)
		}
	}
	return string(b)
}

func (c chance) texts() []string {
	var l []string
	for range c.Intn(4) {
		l = append(l, c.text())
	}
	return l
}

func (c chance) id() api.ID {
	return pick(c, 0, 1, 65535, 65536, 65537, 131072, math.MaxUint64, api.ID(c.Uint64()), api.ID(c.Intn(100)))
}

func (c chance) pairs() []api.Pair {
	var l []api.Pair
	for range c.Intn(4) {
		l = append(l, pair(c.text(), c.text()))
	}
	return l
}

func (c chance) versions() []api.Version {
	var l []api.Version
	for range c.Intn(4) {
		v := version(c.text(), c.id(), c.text(), c.texts()...)
		if v.ID == 0 {
			v = bottom(v.Key)
		}
		l = append(l, v)
	}
	return l
}

// event is one that may be.
func (c chance) event() api.Event {
	client, txn := c.Intn(16), 1+c.Intn(3)
	if c.oneIn(4) {
		txn = pick(c, math.MaxInt, math.MaxInt32, 10, 99)
	}
	switch c.Intn(3) {
	case 0:
		return write(client, txn, c.id(), c.pairs()...)
	case 1:
		return read(client, txn, c.texts()...)
	}
	return answer(client, txn, 1+c.Intn(6), c.id(), c.versions()...)
}

func (c chance) events(most int) []api.Event {
	var l []api.Event
	for range c.Intn(most + 1) {
		l = append(l, c.event())
	}
	return l
}

// bend changes one part of an event, so that it may not be, or is another one.
func (c chance) bend(e api.Event) api.Event {
	switch c.Intn(11) {
	case 0:
		e.Kind = pick(c, -1, 0, 1, 2, 3, 4, math.MinInt, math.MaxInt)
	case 1:
		e.Client = pick(c, -1, 0, 1, 15, 16, math.MinInt, math.MaxInt)
	case 2:
		e.Txn = pick(c, -1, 0, 1, 2, math.MinInt, math.MaxInt)
	case 3:
		e.ID = c.id()
	case 4:
		e.Pairs = c.pairs()
	case 5:
		e.Keys = c.texts()
	case 6:
		e.Answer.Txn = pick(c, -1, 0, 1, e.Txn, math.MinInt, math.MaxInt)
	case 7:
		e.Answer.Result = pick(c, -1, 0, 1, 2, 3, 4, 5, 6, 7, math.MinInt, math.MaxInt)
	case 8:
		e.Answer.ID = c.id()
	case 9:
		e.Answer.Versions = c.versions()
	case 10:
		e.Answer.Versions = append(c.versions(), pick(c, version("a", 0, "x"), version("a", 0, "", ""), version("a", 0, "", "a"), version("a", 1, "x"), bottom("a")))
	}
	return e
}

// proper is a list that is proper: requests of some clients, answered or not.
func (c chance) proper(steps int) []api.Event {
	var l, pending []api.Event
	clients := 1 + c.Intn(16)
	var txns [16]int
	var seqs [16]uint64
	for range steps {
		client := c.Intn(clients)
		if len(pending) > 0 && c.oneIn(2) {
			at := c.Intn(len(pending))
			l = append(l, c.answerTo(pending[at]))
			pending = slices.Delete(pending, at, at+1)
			continue
		}
		txns[client]++
		if c.oneIn(2) {
			l = append(l, read(client, txns[client], c.texts()...))
			if c.oneIn(5) {
				l = append(l, answer(client, txns[client], rsInvalid, 0))
				continue
			}
		} else if c.oneIn(4) {
			l = append(l, write(client, txns[client], 0, c.pairs()...), answer(client, txns[client], pick(c, rsInvalid, rsExhausted), 0))
			continue
		} else {
			seqs[client] += 1 + uint64(c.Intn(2))
			l = append(l, write(client, txns[client], api.ID(seqs[client]*65536+uint64(client)), c.pairs()...))
		}
		pending = append(pending, l[len(l)-1])
	}
	return l
}

// answerTo answers a request that wasn't refused.
func (c chance) answerTo(e api.Event) api.Event {
	if e.Kind == evWrite {
		return answer(e.Client, e.Txn, pick(c, rsOK, rsAborted, rsUnknown), e.ID)
	}
	a := answer(e.Client, e.Txn, pick(c, rsOK, rsOK, rsStale, rsAborted), 0)
	if a.Answer.Result == rsOK {
		for _, key := range e.Keys {
			v := version(key, c.id(), c.text(), c.texts()...)
			if v.ID == 0 {
				v = bottom(key)
			}
			a.Answer.Versions = append(a.Answer.Versions, v)
		}
	}
	return a
}
