package client

import (
	"fmt"
	"math"
	"math/rand"
	"runtime"
	"slices"
	"strings"
	"testing"

	"rampart/api"
	"rampart/disk"
	"rampart/fix"
	"rampart/msg"
	"rampart/part"
)

// The chapter's numbers, not api's.
const (
	kPrepare   = 1
	kCommit    = 2
	kLatest    = 3
	kByID      = 4
	kPrepared  = 5
	kCommitted = 6
	kVersions  = 7
	kNack      = 8

	pending     = 0
	rsOK        = 1
	rsStale     = 2
	rsAborted   = 3
	rsUnknown   = 4
	rsInvalid   = 5
	rsExhausted = 6

	errArg = api.Errno(1)

	maxClients = 16
	maxParts   = 64
	maxPending = 64
	maxSet     = 1024
	maxText    = 65535
	maxBody    = 1048512
	maxAsk     = 1032192
	maxSeq     = 281474976710655

	// me is the client of the examples, one its first write.
	me  = 3
	one = api.ID(65539)
	two = api.ID(131075)
)

// Pairs, versions, messages, posts, answers.

func pair(key, value string) api.Pair { return api.Pair{Key: key, Value: value} }

func pairsOf(keys ...string) []api.Pair {
	var out []api.Pair
	for i, key := range keys {
		out = append(out, pair(key, fmt.Sprint("value ", i)))
	}
	return out
}

func bottom(key string) api.Version { return api.Version{Key: key} }

// version is what a write of these keys put under one of them.
func version(key string, id api.ID, keys ...string) api.Version {
	return api.Version{Key: key, ID: id, Value: fmt.Sprint(key, " of ", id), Keys: keys}
}

// named are n keys, rising.
func named(n int) []string {
	out := make([]string, n)
	for i := range out {
		out[i] = fmt.Sprintf("k%05d", i)
	}
	return out
}

func want(key string, id api.ID) api.Want { return api.Want{Key: key, ID: id} }

func prepare(part int, req uint64, id api.ID, keys []string, pairs ...api.Pair) api.Post {
	return api.Post{Part: part, Message: api.Message{Kind: kPrepare, Client: me, Req: req, ID: id, Pairs: pairs, Keys: keys}}
}

func commit(part int, req uint64, id api.ID) api.Post {
	return api.Post{Part: part, Message: api.Message{Kind: kCommit, Client: me, Req: req, ID: id}}
}

func latest(part int, req uint64, keys ...string) api.Post {
	return api.Post{Part: part, Message: api.Message{Kind: kLatest, Client: me, Req: req, Keys: keys}}
}

func byID(part int, req uint64, wants ...api.Want) api.Post {
	return api.Post{Part: part, Message: api.Message{Kind: kByID, Client: me, Req: req, Wants: wants}}
}

func says(kind int, req uint64, id api.ID) api.Message {
	return api.Message{Kind: kind, Client: me, Req: req, ID: id}
}

func prepared(req uint64, id api.ID) api.Message { return says(kPrepared, req, id) }

func committed(req uint64, id api.ID) api.Message { return says(kCommitted, req, id) }

func brings(req uint64, v api.Version) api.Message {
	return api.Message{Kind: kVersions, Client: me, Req: req, Versions: []api.Version{v}}
}

// asks are the keys that a read's question asks for.
func asks(m api.Message) []string {
	var out []string
	if m.Kind == kLatest {
		out = slices.Clone(m.Keys)
	}
	for _, w := range m.Wants {
		out = append(out, w.Key)
	}
	return out
}

// holder tells which version of a key a partition answers to a question.
type holder func(p api.Post, key string) api.Version

// nothing is what partitions have that nobody wrote to.
func nothing(_ api.Post, key string) api.Version { return bottom(key) }

// answersTo are a partition's answers to a question, all of them.
func answersTo(p api.Post, has holder) []api.Message {
	m := api.Message{Client: p.Message.Client, Req: p.Message.Req, ID: p.Message.ID}
	switch p.Message.Kind {
	case kPrepare:
		m.Kind = kPrepared
		return []api.Message{m}
	case kCommit:
		m.Kind = kCommitted
		return []api.Message{m}
	}
	m.Kind = kVersions
	var out []api.Message
	for _, key := range asks(p.Message) {
		m.Versions = []api.Version{has(p, key)}
		out = append(out, m)
	}
	return out
}

func sameVersion(a, b api.Version) bool {
	return a.Key == b.Key && a.ID == b.ID && a.Value == b.Value && slices.Equal(a.Keys, b.Keys)
}

func sameVersions(a, b []api.Version) bool { return slices.EqualFunc(a, b, sameVersion) }

func sameMessage(a, b api.Message) bool {
	return a.Kind == b.Kind && a.Client == b.Client && a.Req == b.Req && a.ID == b.ID && slices.Equal(a.Pairs, b.Pairs) &&
		slices.Equal(a.Keys, b.Keys) && slices.Equal(a.Wants, b.Wants) && sameVersions(a.Versions, b.Versions)
}

func samePost(a, b api.Post) bool { return a.Part == b.Part && sameMessage(a.Message, b.Message) }

func samePosts(a, b []api.Post) bool { return slices.EqualFunc(a, b, samePost) }

func sameAnswer(a, b api.Answer) bool {
	return a.Txn == b.Txn && a.Result == b.Result && a.ID == b.ID && sameVersions(a.Versions, b.Versions)
}

func copyVersions(l []api.Version) []api.Version {
	var out []api.Version
	for _, v := range l {
		v.Keys = slices.Clone(v.Keys)
		out = append(out, v)
	}
	return out
}

func copyPost(p api.Post) api.Post {
	m := &p.Message
	m.Pairs, m.Keys, m.Wants = slices.Clone(m.Pairs), slices.Clone(m.Keys), slices.Clone(m.Wants)
	return p
}

func copyPosts(l []api.Post) []api.Post {
	var out []api.Post
	for _, p := range l {
		out = append(out, copyPost(p))
	}
	return out
}

func copyAnswer(a api.Answer) api.Answer {
	a.Versions = copyVersions(a.Versions)
	return a
}

// short is what is told of great things.
func short(x any) string {
	s := strings.ToValidUTF8(fmt.Sprintf("%+v", x), "?")
	if len(s) > 1500 {
		return s[:1500] + " .."
	}
	return s
}

// The words of the chapter, and of those of layers 18 and 19, done slowly: everything that was ever asked, told and
// counted is written down, and each answer is reckoned from all of that.

// machine is a request under way.
type machine interface {
	begin() []api.Post
	receive(part int, m api.Message) []api.Post
	again() []api.Post
	give()
	outcome() (int, []api.Version)
}

// hashOn is FNV-1a of 64 bits, gone on with behind what has this hash.
func hashOn(h uint64, text string) uint64 {
	for i := range len(text) {
		h = (h ^ uint64(text[i])) * 1099511628211
	}
	return h
}

const hashOfNothing = uint64(14695981039346656037)

func placeOf(key string, parts int) int { return int(hashOn(hashOfNothing, key) % uint64(parts)) }

func goodKeys(l []string) bool {
	if len(l) < 1 || len(l) > maxSet {
		return false
	}
	seen := map[string]bool{}
	for _, key := range l {
		if seen[key] || len(key) > maxText {
			return false
		}
		seen[key] = true
	}
	return true
}

func goodPairs(l []api.Pair) bool {
	var names []string
	for _, p := range l {
		if len(p.Value) > maxText {
			return false
		}
		names = append(names, p.Key)
	}
	return goodKeys(names)
}

type slowWrite struct {
	pairs    []api.Pair
	id       api.ID
	parts    int
	next     func() uint64
	given    bool
	prepares []api.Post
	commits  []api.Post
	counted  map[uint64]bool
}

func newSlowWrite(pairs []api.Pair, id api.ID, parts int, next func() uint64) *slowWrite {
	rising := slices.Clone(pairs)
	slices.SortFunc(rising, func(a, b api.Pair) int { return strings.Compare(a.Key, b.Key) })
	return &slowWrite{pairs: rising, id: id, parts: parts, next: next, counted: map[uint64]bool{}}
}

func (x *slowWrite) message(kind int) api.Message {
	return api.Message{Kind: kind, Client: int(uint64(x.id) & 0xffff), Req: x.next(), ID: x.id}
}

func (x *slowWrite) begin() []api.Post {
	for part := range x.parts {
		var own []api.Pair
		var names []string
		for _, p := range x.pairs {
			if placeOf(p.Key, x.parts) == part {
				own = append(own, p)
			}
			names = append(names, p.Key)
		}
		if len(own) > 0 {
			m := x.message(kPrepare)
			m.Pairs, m.Keys = own, names
			x.prepares = append(x.prepares, api.Post{Part: part, Message: m})
		}
	}
	return x.prepares
}

// open are the questions of a round that are not answered.
func (x *slowWrite) open(round []api.Post) []api.Post {
	var out []api.Post
	for _, p := range round {
		if !x.counted[p.Message.Req] {
			out = append(out, p)
		}
	}
	return out
}

func (x *slowWrite) round() ([]api.Post, int) {
	if len(x.commits) > 0 {
		return x.commits, kCommitted
	}
	return x.prepares, kPrepared
}

func (x *slowWrite) receive(part int, m api.Message) []api.Post {
	round, kind := x.round()
	for _, p := range round {
		if p.Part == part && p.Message.Req == m.Req && m.ID == x.id && m.Kind == kind {
			x.counted[m.Req] = true
		}
	}
	if kind == kCommitted || len(x.open(x.prepares)) > 0 {
		return nil
	}
	for _, p := range x.prepares {
		x.commits = append(x.commits, api.Post{Part: p.Part, Message: x.message(kCommit)})
	}
	return x.commits
}

func (x *slowWrite) again() []api.Post {
	round, _ := x.round()
	return x.open(round)
}

func (x *slowWrite) give() { x.given = true }

func (x *slowWrite) outcome() (int, []api.Version) {
	switch {
	case len(x.commits) > 0 && len(x.open(x.commits)) == 0:
		return rsOK, nil
	case !x.given:
		return pending, nil
	case len(x.commits) > 0:
		return rsUnknown, nil
	}
	return rsAborted, nil
}

type slowRead struct {
	keys   []string
	parts  int
	client int
	next   func() uint64
	given  bool
	first  []api.Post
	second []api.Post
	came   map[string]api.Version
}

func newSlowRead(keys []string, parts, client int, next func() uint64) *slowRead {
	return &slowRead{keys: slices.Clone(keys), parts: parts, client: client, next: next, came: map[string]api.Version{}}
}

func (x *slowRead) begin() []api.Post {
	for part := range x.parts {
		m := api.Message{Kind: kLatest, Client: x.client}
		for _, key := range x.keys {
			if placeOf(key, x.parts) == part {
				m.Keys = append(m.Keys, key)
			}
		}
		if len(m.Keys) > 0 {
			m.Req = x.next()
			x.first = append(x.first, api.Post{Part: part, Message: m})
		}
	}
	return x.first
}

func mark(kind int, key string) string { return fmt.Sprint(kind, " for ", key) }

// open are the questions of a round that are not done.
func (x *slowRead) open(round []api.Post) []api.Post {
	var out []api.Post
	for _, p := range round {
		for _, key := range asks(p.Message) {
			if _, has := x.came[mark(p.Message.Kind, key)]; !has {
				out = append(out, p)
				break
			}
		}
	}
	return out
}

func (x *slowRead) round() []api.Post {
	if len(x.second) > 0 {
		return x.second
	}
	return x.first
}

// brought are the versions of a round, in the order of these keys.
func (x *slowRead) brought(kind int, keys []string) []api.Version {
	var out []api.Version
	for _, key := range keys {
		out = append(out, x.came[mark(kind, key)])
	}
	return out
}

func (x *slowRead) receive(part int, m api.Message) []api.Post {
	for _, p := range x.round() {
		if m.Kind != kVersions || len(m.Versions) != 1 || p.Part != part || p.Message.Req != m.Req {
			continue
		}
		v := m.Versions[0]
		_, has := x.came[mark(p.Message.Kind, v.Key)]
		if slices.Contains(asks(p.Message), v.Key) && !has {
			x.came[mark(p.Message.Kind, v.Key)] = copyVersions(m.Versions)[0]
		}
	}
	if len(x.second) > 0 || len(x.open(x.first)) > 0 {
		return nil
	}
	wants, _ := fix.Needs(x.brought(kLatest, x.keys))
	for n := range x.parts {
		q := api.Message{Kind: kByID, Client: x.client}
		for _, w := range wants {
			if placeOf(w.Key, x.parts) == n {
				q.Wants = append(q.Wants, w)
			}
		}
		if len(q.Wants) > 0 {
			q.Req = x.next()
			x.second = append(x.second, api.Post{Part: n, Message: q})
		}
	}
	return x.second
}

func (x *slowRead) again() []api.Post { return x.open(x.round()) }

func (x *slowRead) give() { x.given = true }

func (x *slowRead) outcome() (int, []api.Version) {
	switch {
	case x.given:
		return rsAborted, nil
	case len(x.open(x.first)) > 0:
		return pending, nil
	}
	l := x.brought(kLatest, x.keys)
	wants, err := fix.Needs(l)
	if err != 0 {
		return rsStale, nil
	}
	if len(wants) == 0 {
		return rsOK, l
	}
	if len(x.open(x.second)) > 0 {
		return pending, nil
	}
	var names []string
	for _, w := range wants {
		names = append(names, w.Key)
	}
	got := x.brought(kByID, names)
	mended, err := fix.Mend(l, got)
	if err != 0 || slices.ContainsFunc(got, func(v api.Version) bool { return v.ID == 0 }) {
		return rsStale, nil
	}
	return rsOK, mended
}

// model is a client. made has all requests that were ever made, also those that are answered.
type model struct {
	number  int
	parts   int
	seq     uint64
	reqs    uint64
	made    []*entry
	stopped bool
}

type entry struct {
	machine
	id       api.ID
	answered bool
}

func newModel(number, parts int, first uint64) (*model, api.Errno) {
	if number < 0 || number > 15 || parts < 1 || parts > 64 || first > maxSeq {
		return nil, errArg
	}
	return &model{number: number, parts: parts, seq: max(first, 1)}, 0
}

func (x *model) next() uint64 {
	x.reqs++
	return x.reqs
}

// prepareSize is how many bytes the longest prepare of these pairs has, reckoned by layer 8's words.
func prepareSize(pairs []api.Pair, parts int) int {
	names, own := 0, make([]int, parts)
	for _, p := range pairs {
		names += 4 + len(p.Key)
		own[placeOf(p.Key, parts)] += 4 + len(p.Key) + 4 + len(p.Value)
	}
	return 10 + 8 + 4 + names + 4 + slices.Max(own)
}

// latestSize is how many bytes the longest MsLatest of these keys has.
func latestSize(keys []string, parts int) int {
	own := make([]int, parts)
	for _, key := range keys {
		own[placeOf(key, parts)] += 4 + len(key)
	}
	return 10 + 4 + slices.Max(own)
}

func (x *model) refuse(result int) ([]api.Post, api.Answer) {
	x.made = append(x.made, &entry{answered: true})
	return nil, api.Answer{Txn: len(x.made), Result: result}
}

func (x *model) begin(m machine, id api.ID) ([]api.Post, api.Answer) {
	x.made = append(x.made, &entry{machine: m, id: id})
	return m.begin(), api.Answer{Txn: len(x.made), ID: id}
}

func (x *model) write(pairs []api.Pair) ([]api.Post, api.Answer) {
	switch {
	case x.stopped:
		return nil, api.Answer{}
	case !goodPairs(pairs) || len(x.pending()) >= maxPending || prepareSize(pairs, x.parts) > maxBody:
		return x.refuse(rsInvalid)
	case x.seq > maxSeq:
		return x.refuse(rsExhausted)
	}
	id := api.ID(x.seq*65536 + uint64(x.number))
	x.seq++
	return x.begin(newSlowWrite(pairs, id, x.parts, x.next), id)
}

func (x *model) read(keys []string) ([]api.Post, api.Answer) {
	switch {
	case x.stopped:
		return nil, api.Answer{}
	case !goodKeys(keys) || len(x.pending()) >= maxPending || latestSize(keys, x.parts) > maxAsk:
		return x.refuse(rsInvalid)
	}
	return x.begin(newSlowRead(keys, x.parts, x.number, x.next), 0)
}

func (x *model) answer(txn int) api.Answer {
	e := x.made[txn-1]
	e.answered = true
	result, versions := e.outcome()
	return api.Answer{Txn: txn, Result: result, ID: e.id, Versions: versions}
}

func (x *model) receive(part int, m api.Message) ([]api.Post, api.Answer) {
	var posts []api.Post
	var answer api.Answer
	if m.Client != x.number {
		return posts, answer
	}
	for _, txn := range x.pending() {
		e := x.made[txn-1]
		posts = append(posts, e.receive(part, m)...)
		if result, _ := e.outcome(); result != pending {
			answer = x.answer(txn)
		}
	}
	return posts, answer
}

func (x *model) tick() []api.Post {
	var posts []api.Post
	for _, txn := range x.pending() {
		posts = append(posts, x.made[txn-1].again()...)
	}
	return posts
}

func (x *model) give(txn int) (api.Answer, api.Errno) {
	if !slices.Contains(x.pending(), txn) {
		return api.Answer{}, errArg
	}
	x.made[txn-1].give()
	return x.answer(txn), 0
}

func (x *model) pending() []int {
	var out []int
	for i, e := range x.made {
		if !x.stopped && !e.answered {
			out = append(out, i+1)
		}
	}
	return out
}

// What a client told, and P20.2 and P20.3 held against that alone.

type ledger struct {
	number int
	seq    uint64
	txns   int
	reqs   uint64
	asked  map[uint64]api.Post
	owner  map[uint64]int
	result map[int]int
}

func newLedger(number int, first uint64) *ledger {
	return &ledger{number: number, seq: max(first, 1), asked: map[uint64]api.Post{}, owner: map[uint64]int{}, result: map[int]int{}}
}

// requested sees what a Write or a Read told.
func (o *ledger) requested(posts []api.Post, a api.Answer, isWrite bool) string {
	o.txns++
	if a.Txn != o.txns {
		return fmt.Sprintf("P20.2: request %d has the Txn %d", o.txns, a.Txn)
	}
	if a.Result != pending {
		if a.Result != rsInvalid && (a.Result != rsExhausted || !isWrite) || len(posts) > 0 || a.ID != 0 || len(a.Versions) > 0 {
			return fmt.Sprintf("P20.3: a refused request tells %s, %s", short(posts), short(a))
		}
		o.result[a.Txn] = a.Result
		return ""
	}
	if isWrite {
		if ought := api.ID(o.seq<<16 + uint64(o.number)); a.ID != ought || o.seq > maxSeq {
			return fmt.Sprintf("P20.2: the name %d, want %d", a.ID, ought)
		}
		o.seq++
	}
	if len(posts) == 0 || !isWrite && a.ID != 0 || len(a.Versions) > 0 {
		return fmt.Sprintf("P20.1: a request begins with %s, %s", short(posts), short(a))
	}
	for _, p := range posts {
		kind, id := p.Message.Kind, p.Message.ID
		if isWrite && (kind != kPrepare || id != a.ID) || !isWrite && (kind != kLatest || id != 0) {
			return fmt.Sprintf("P20.1: a request begins with %s", short(p))
		}
	}
	return o.asks(a.Txn, posts)
}

// asks sees new questions of a request.
func (o *ledger) asks(txn int, posts []api.Post) string {
	if o.result[txn] != pending && len(posts) > 0 {
		return fmt.Sprintf("P20.3: request %d asks behind its end: %s", txn, short(posts))
	}
	for _, p := range posts {
		o.reqs++
		if p.Message.Req != o.reqs {
			return fmt.Sprintf("P20.2: question %d has the Req %d", o.reqs, p.Message.Req)
		}
		if p.Message.Client != o.number || !msg.May(p.Message) {
			return fmt.Sprintf("P20.1: a question that may not be: %s", short(p))
		}
		o.owner[o.reqs], o.asked[o.reqs] = txn, copyPost(p)
	}
	return ""
}

// ends sees the answer of a request that was begun.
func (o *ledger) ends(a api.Answer, results ...int) string {
	if a.Txn < 1 || a.Txn > o.txns || o.result[a.Txn] != pending {
		return fmt.Sprintf("P20.3: request %d ends once more: %s", a.Txn, short(a))
	}
	if !slices.Contains(results, a.Result) {
		return fmt.Sprintf("P20.3: request %d ends so: %s", a.Txn, short(a))
	}
	o.result[a.Txn] = a.Result
	return ""
}

// received sees what a Receive told.
func (o *ledger) received(m api.Message, posts []api.Post, a api.Answer) string {
	txn := o.owner[m.Req]
	if (len(posts) > 0 || a.Result != pending) && (m.Client != o.number || txn == 0) {
		return fmt.Sprintf("P20.3: a message to nobody tells %s, %s", short(posts), short(a))
	}
	if said := o.asks(txn, posts); said != "" {
		return said
	}
	if a.Result == pending {
		if a.Txn != 0 || a.ID != 0 || len(a.Versions) > 0 {
			return fmt.Sprintf("P20.1: no answer, but %s", short(a))
		}
		return ""
	}
	if a.Txn != txn || len(posts) > 0 {
		return fmt.Sprintf("P20.3: an answer to request %d ends %s, and asks %s", txn, short(a), short(posts))
	}
	return o.ends(a, rsOK, rsStale)
}

// ticked sees what a Tick told.
func (o *ledger) ticked(posts []api.Post) string {
	last := 0
	for _, p := range posts {
		was, told := o.asked[p.Message.Req]
		if !told || !samePost(p, was) {
			return fmt.Sprintf("P20.2: a tick tells %s, ahead of it was told %s", short(p), short(was))
		}
		txn := o.owner[p.Message.Req]
		if o.result[txn] != pending {
			return fmt.Sprintf("P20.3: a tick asks for request %d behind its end", txn)
		}
		if txn < last {
			return fmt.Sprintf("P20.1: a tick tells request %d behind %d", txn, last)
		}
		last = txn
	}
	return ""
}

// gave sees what a Give told.
func (o *ledger) gave(txn int, a api.Answer, err api.Errno) string {
	if err != 0 {
		if !sameAnswer(a, api.Answer{}) {
			return fmt.Sprintf("P20.1: beside ErrArg: %s", short(a))
		}
		return ""
	}
	ought := rsAborted
	for req, p := range o.asked {
		if o.owner[req] == txn && p.Message.Kind == kCommit {
			ought = rsUnknown
		}
	}
	if a.Txn != txn || len(a.Versions) > 0 {
		return fmt.Sprintf("P20.1: Give(%d) = %s", txn, short(a))
	}
	return o.ends(a, ought)
}

// Memory with spare room.

// roomy is a copy of a list with spare room behind it, in which something stands.
func roomy[T any](l []T, x T) []T {
	out := append(append(make([]T, 0, len(l)+3), l...), x, x, x)
	return out[:len(l)]
}

func roomyMessage(m api.Message) api.Message {
	m.Pairs, m.Keys = roomy(m.Pairs, pair("spare", "s")), roomy(m.Keys, "spare")
	m.Wants, m.Versions = roomy(m.Wants, want("spare", 7)), roomy(m.Versions, bottom("spare"))
	for i := range m.Versions {
		m.Versions[i].Keys = roomy(m.Versions[i].Keys, "spare")
	}
	return m
}

// whole is a message with its lists up to the ends of their room.
func whole(m api.Message) api.Message {
	m.Pairs, m.Keys = m.Pairs[:cap(m.Pairs)], m.Keys[:cap(m.Keys)]
	m.Wants, m.Versions = m.Wants[:cap(m.Wants)], slices.Clone(m.Versions[:cap(m.Versions)])
	for i, v := range m.Versions {
		m.Versions[i].Keys = v.Keys[:cap(v.Keys)]
	}
	return m
}

// fill writes a list full, its spare room too.
func fill[T any](l []T, x T) {
	l = l[:cap(l)]
	for i := range l {
		l[i] = x
	}
}

// spoil writes over all that a message has, and lengthens its lists.
func spoil(m *api.Message) {
	for i := range m.Versions {
		spoilVersion(&m.Versions[i])
	}
	fill(m.Pairs, pair("spoilt", "spoilt"))
	fill(m.Keys, "spoilt")
	fill(m.Wants, want("spoilt", 7))
	fill(m.Versions, bottom("spoilt"))
	*m = api.Message{
		Kind: -1, Client: -1, Req: 77, ID: 77,
		Pairs: append(m.Pairs, pair("spoilt!", "")), Keys: append(m.Keys, "spoilt!"),
		Wants: append(m.Wants, want("spoilt!", 7)), Versions: append(m.Versions, bottom("spoilt!")),
	}
}

func spoilVersion(v *api.Version) {
	fill(v.Keys, "spoilt")
	*v = api.Version{Key: "spoilt", ID: 77, Value: "spoilt", Keys: append(v.Keys, "spoilt!")}
}

// spoilPosts writes over each post of an answer: false, if one that comes later is another then than it ought to be.
func spoilPosts(l, ought []api.Post) bool {
	for i := range l {
		if !samePosts(l[i:], ought[i:]) {
			return false
		}
		spoil(&l[i].Message)
		l[i].Part = -77
	}
	fill(l, api.Post{Part: -7})
	_ = append(l, api.Post{Part: -8})
	return true
}

// spoilVersions does so to versions.
func spoilVersions(l, ought []api.Version) bool {
	for i := range l {
		if !sameVersions(l[i:], ought[i:]) {
			return false
		}
		spoilVersion(&l[i])
	}
	fill(l, bottom("spoilt"))
	_ = append(l, bottom("spoilt!"))
	return true
}

// A client beside its model.

type twins struct {
	c      *Client
	x      *model
	seen   *ledger
	script []string
}

func newTwins(t *testing.T, number, parts int, first uint64) *twins {
	t.Helper()
	c, err := New(number, parts, first)
	x, bad := newModel(number, parts, first)
	if err != bad || (c == nil) != (err != 0) {
		t.Fatalf("P20.1: New(%d, %d, %d) = %v, %d, want %d", number, parts, first, c != nil, err, bad)
	}
	g := &twins{c: c, x: x, seen: newLedger(number, first)}
	if c != nil {
		g.script = append(g.script, fmt.Sprintf("New(%d, %d, %d)", number, parts, first))
		g.looks(t)
	}
	return g
}

// looks holds what can be seen without a call that changes anything against the model.
func (g *twins) looks(t *testing.T) {
	t.Helper()
	if got := g.c.Stopped(); got != g.x.stopped {
		t.Fatalf("P20.1: Stopped = %v, behind %q", got, g.script)
	}
	ought := g.x.pending()
	// Once more behind writing over what was told.
	for range 2 {
		got := g.c.Pending()
		if !slices.Equal(got, ought) {
			t.Fatalf("P20.1: Pending = %v, want %v, behind %q", got, ought, g.script)
		}
		fill(got, -7)
		_ = append(got, -8)
	}
}

// tells holds what a call told against the model and the ledger, and writes over it.
func (g *twins) tells(t *testing.T, call string, posts, ought []api.Post, a, due api.Answer, said string) {
	t.Helper()
	g.script = append(g.script, call)
	if !samePosts(posts, ought) {
		t.Fatalf("P20.1: %s, want %s, behind %q", short(posts), short(ought), g.script)
	}
	if !sameAnswer(a, due) {
		t.Fatalf("P20.1: %s, want %s, behind %q", short(a), short(due), g.script)
	}
	if said != "" {
		t.Fatalf("%s, behind %q", said, g.script)
	}
	if !spoilPosts(posts, ought) || !spoilVersions(a.Versions, due.Versions) {
		t.Fatalf("P20.6: lists of one answer share memory, behind %q", g.script)
	}
	g.looks(t)
}

func (g *twins) write(t *testing.T, pairs ...api.Pair) {
	t.Helper()
	in := roomy(pairs, pair("spare", "s"))
	posts, a := g.c.Write(in)
	if !slices.Equal(in[:cap(in)], append(slices.Clone(pairs), pair("spare", "s"), pair("spare", "s"), pair("spare", "s"))) {
		t.Fatalf("P20.6: Write changed what it was handed: %s", short(in[:cap(in)]))
	}
	fill(in, pair("spoilt", "spoilt"))
	ought, due := g.x.write(pairs)
	said := ""
	if !g.x.stopped {
		said = g.seen.requested(posts, a, true)
	}
	g.tells(t, fmt.Sprintf("Write(%s)", short(pairs)), posts, ought, a, due, said)
}

func (g *twins) read(t *testing.T, keys ...string) {
	t.Helper()
	in := roomy(keys, "spare")
	posts, a := g.c.Read(in)
	if !slices.Equal(in[:cap(in)], append(slices.Clone(keys), "spare", "spare", "spare")) {
		t.Fatalf("P20.6: Read changed what it was handed: %s", short(in[:cap(in)]))
	}
	fill(in, "spoilt")
	ought, due := g.x.read(keys)
	said := ""
	if !g.x.stopped {
		said = g.seen.requested(posts, a, false)
	}
	g.tells(t, fmt.Sprintf("Read(%s)", short(keys)), posts, ought, a, due, said)
}

func (g *twins) receive(t *testing.T, part int, m api.Message) {
	t.Helper()
	in := roomyMessage(m)
	posts, a := g.c.Receive(part, in)
	if !sameMessage(whole(in), whole(roomyMessage(m))) {
		t.Fatalf("P20.6: Receive changed what it was handed: %s", short(whole(in)))
	}
	spoil(&in)
	ought, due := g.x.receive(part, m)
	g.tells(t, fmt.Sprintf("Receive(%d, %s)", part, short(m)), posts, ought, a, due, g.seen.received(m, posts, a))
}

func (g *twins) tick(t *testing.T) {
	t.Helper()
	posts := g.c.Tick()
	g.tells(t, "Tick", posts, g.x.tick(), api.Answer{}, api.Answer{}, g.seen.ticked(posts))
}

func (g *twins) give(t *testing.T, txn int) {
	t.Helper()
	a, err := g.c.Give(txn)
	due, bad := g.x.give(txn)
	if err != bad {
		t.Fatalf("P20.1: Give(%d) = %d, want %d, behind %q", txn, err, bad, g.script)
	}
	g.tells(t, fmt.Sprintf("Give(%d)", txn), nil, nil, a, due, g.seen.gave(txn, a, err))
}

func (g *twins) stop(t *testing.T) {
	t.Helper()
	g.c.Stop()
	g.x.stopped = true
	g.tells(t, "Stop", nil, nil, api.Answer{}, api.Answer{}, "")
}

// open are all questions that have no answer yet.
func (g *twins) open() []api.Post { return copyPosts(g.x.tick()) }

// answer answers a question as a partition that has this does.
func (g *twins) answer(t *testing.T, p api.Post, has holder) {
	t.Helper()
	for _, m := range answersTo(p, has) {
		g.receive(t, p.Part, m)
	}
}

// answerAll answers all questions that are open now.
func (g *twins) answerAll(t *testing.T, has holder) {
	t.Helper()
	for _, p := range g.open() {
		g.answer(t, p, has)
	}
}

// The examples.

func tells(t *testing.T, what string, got []api.Post, want ...api.Post) {
	t.Helper()
	if !samePosts(got, want) {
		t.Fatalf("P20.1: %s: %s, want %s", what, short(got), short(want))
	}
}

func answersIs(t *testing.T, what string, got, want api.Answer) {
	t.Helper()
	if !sameAnswer(got, want) {
		t.Fatalf("P20.1: %s: %s, want %s", what, short(got), short(want))
	}
}

func pendingIs(t *testing.T, what string, c *Client, want ...int) {
	t.Helper()
	if got := c.Pending(); !slices.Equal(got, want) {
		t.Fatalf("P20.1: %s: Pending = %v, want %v", what, got, want)
	}
}

func fresh(t *testing.T, number, parts int, first uint64) *Client {
	t.Helper()
	c, err := New(number, parts, first)
	if c == nil || err != 0 {
		t.Fatalf("P20.1: New(%d, %d, %d) = %d", number, parts, first, err)
	}
	pendingIs(t, "behind New", c)
	if c.Stopped() {
		t.Fatal("P20.1: a new client is stopped")
	}
	return c
}

func exampleOne(t *testing.T) *Client {
	t.Helper()
	c := fresh(t, me, 4, 0)
	posts, a := c.Write([]api.Pair{pair("a", "1")})
	tells(t, "the write", posts, prepare(0, 1, one, []string{"a"}, pair("a", "1")))
	answersIs(t, "the write", a, api.Answer{Txn: 1, ID: one})
	posts, a = c.Read([]string{"a", "b"})
	tells(t, "the read", posts, latest(0, 2, "a"), latest(1, 3, "b"))
	answersIs(t, "the read", a, api.Answer{Txn: 2})
	posts, a = c.Write([]api.Pair{pair("a", "1"), pair("a", "2")})
	tells(t, "a twice", posts)
	answersIs(t, "a twice", a, api.Answer{Txn: 3, Result: rsInvalid})
	pendingIs(t, "behind three requests", c, 1, 2)
	return c
}

func exampleTwo(t *testing.T) *Client {
	t.Helper()
	c := exampleOne(t)
	posts, a := c.Receive(0, prepared(1, one))
	tells(t, "MsPrepared", posts, commit(0, 4, one))
	answersIs(t, "MsPrepared", a, api.Answer{})
	tells(t, "Tick", c.Tick(), commit(0, 4, one), latest(0, 2, "a"), latest(1, 3, "b"))
	posts, a = c.Receive(0, committed(4, one))
	tells(t, "MsCommitted", posts)
	answersIs(t, "MsCommitted", a, api.Answer{Txn: 1, Result: rsOK, ID: one})
	posts, a = c.Receive(0, committed(4, one))
	tells(t, "MsCommitted again", posts)
	answersIs(t, "MsCommitted again", a, api.Answer{})
	pendingIs(t, "behind the write", c, 2)
	return c
}

func TestExampleOne(t *testing.T) { exampleOne(t) }

func TestExampleTwo(t *testing.T) { exampleTwo(t) }

func TestExampleThree(t *testing.T) {
	c := exampleTwo(t)
	posts, a := c.Receive(0, brings(2, bottom("a")))
	tells(t, "a", posts)
	answersIs(t, "a", a, api.Answer{})
	posts, a = c.Receive(1, brings(3, bottom("b")))
	tells(t, "b", posts)
	answersIs(t, "b", a, api.Answer{Txn: 2, Result: rsOK, Versions: []api.Version{bottom("a"), bottom("b")}})
	a, err := c.Give(2)
	answersIs(t, "Give(2)", a, api.Answer{})
	if err != errArg {
		t.Errorf("P20.1: Give(2) = %d, want %d", err, errArg)
	}
	pendingIs(t, "behind both", c)
}

func TestExampleFour(t *testing.T) {
	c := fresh(t, me, 4, 1<<48-1)
	posts, a := c.Write(pairsOf("a"))
	tells(t, "the last name", posts, prepare(0, 1, (1<<48-1)<<16+me, []string{"a"}, pairsOf("a")...))
	answersIs(t, "the last name", a, api.Answer{Txn: 1, ID: (1<<48-1)<<16 + me})
	posts, a = c.Write(pairsOf("a"))
	tells(t, "behind it", posts)
	answersIs(t, "behind it", a, api.Answer{Txn: 2, Result: rsExhausted})
	for _, x := range []struct {
		number, parts int
		first         uint64
	}{{16, 1, 0}, {0, 65, 0}, {0, 1, 1 << 48}} {
		if c, err := New(x.number, x.parts, x.first); c != nil || err != errArg {
			t.Errorf("P20.1: New(%d, %d, %d) = %v, %d, want %d", x.number, x.parts, x.first, c != nil, err, errArg)
		}
	}
	c.Stop()
	posts, a = c.Write(pairsOf("a"))
	tells(t, "behind Stop", posts)
	answersIs(t, "behind Stop", a, api.Answer{})
	if !c.Stopped() {
		t.Error("P20.1: Stopped is false behind Stop")
	}
}

// New.

func TestNewArguments(t *testing.T) {
	numbers := []int{math.MinInt, -65536, -1, 0, 1, 3, 14, 15, 16, 17, 65535, 65536, math.MaxInt}
	parts := []int{math.MinInt, -1, 0, 1, 2, 4, 63, 64, 65, 128, math.MaxInt}
	firsts := []uint64{0, 1, 2, 1 << 32, maxSeq - 1, maxSeq, maxSeq + 1, maxSeq + 2, 1 << 63, math.MaxUint64}
	for _, number := range numbers {
		for _, n := range parts {
			for _, first := range firsts {
				c, err := New(number, n, first)
				good := number >= 0 && number <= 15 && n >= 1 && n <= 64 && first <= 281474976710655
				if good != (err == 0) || good != (c != nil) || !good && err != errArg {
					t.Fatalf("P20.1: New(%d, %d, %d) = %v, %d", number, n, first, c != nil, err)
				}
			}
		}
	}
}

// Each number, each count of partitions and each beginning of the names that may be is seen in what goes out.
func TestNewEdges(t *testing.T) {
	for _, number := range []int{0, 1, 3, 14, 15} {
		for _, parts := range []int{1, 2, 4, 63, 64} {
			for _, first := range []uint64{0, 1, 2, 77, maxSeq - 1, maxSeq} {
				g := newTwins(t, number, parts, first)
				for range 3 {
					g.write(t, pairsOf("c", "a", "b")...)
					g.read(t, "b", "c", "a")
				}
				for range 2 {
					g.tick(t)
					g.answerAll(t, nothing)
				}
				if l := g.c.Pending(); len(l) > 0 {
					t.Fatalf("P20.5: pending are %v, behind %q", l, g.script)
				}
			}
		}
	}
}

// Requests that are refused.

type pairList struct {
	pairs []api.Pair
	good  bool
}

// pairLists are lists of pairs, each with whether it may be written.
func pairLists() map[string]pairList {
	long := strings.Repeat("x", maxText+1)
	backwards := pairsOf(named(maxSet)...)
	slices.Reverse(backwards)
	return map[string]pairList{
		"nil":                    {nil, false},
		"no pairs":               {[]api.Pair{}, false},
		"the empty pair":         {[]api.Pair{{}}, true},
		"one pair":               {pairsOf("a"), true},
		"two pairs, falling":     {pairsOf("b", "a"), true},
		"a key twice":            {pairsOf("a", "a"), false},
		"a pair twice":           {[]api.Pair{pair("a", "1"), pair("a", "1")}, false},
		"a key twice, far apart": {pairsOf("a", "b", "c", "a"), false},
		"a key of 65535 bytes":   {pairsOf(long[1:]), true},
		"a key of 65536 bytes":   {pairsOf(long), false},
		"a value of 65535 bytes": {[]api.Pair{pair("a", long[1:])}, true},
		"a value of 65536 bytes": {[]api.Pair{pair("b", "1"), pair("a", long)}, false},
		"1024 pairs":             {pairsOf(named(maxSet)...), true},
		"1024 pairs, falling":    {backwards, true},
		"1024, a key twice":      {pairsOf(append(named(maxSet-1), "k00500")...), false},
		"1025 pairs":             {pairsOf(named(maxSet + 1)...), false},
		"100000 pairs":           {make([]api.Pair, 100000), false},
	}
}

type keyList struct {
	keys []string
	good bool
}

// keyLists are lists of keys, each with whether it may be read.
func keyLists() map[string]keyList {
	long := strings.Repeat("x", maxText+1)
	backwards := named(maxSet)
	slices.Reverse(backwards)
	return map[string]keyList{
		"nil":                    {nil, false},
		"no keys":                {[]string{}, false},
		"the empty key":          {[]string{""}, true},
		"one key":                {[]string{"a"}, true},
		"two keys, falling":      {[]string{"b", "a"}, true},
		"a key twice":            {[]string{"a", "a"}, false},
		"a key twice, far apart": {[]string{"a", "b", "c", "a"}, false},
		"a key of 65535 bytes":   {[]string{long[1:]}, true},
		"a key of 65536 bytes":   {[]string{"a", long}, false},
		"1024 keys":              {named(maxSet), true},
		"1024 keys, falling":     {backwards, true},
		"1024 keys, one twice":   {append(named(maxSet-1), "k00500"), false},
		"1025 keys":              {named(maxSet + 1), false},
		"100000 keys":            {make([]string, 100000), false},
	}
}

// begins holds a request that begins, with its number, against one that is refused.
func begins(t *testing.T, what string, good bool, txn int, posts []api.Post, a api.Answer) {
	t.Helper()
	result := pending
	if !good {
		result = rsInvalid
	}
	if a.Txn != txn || a.Result != result || (len(posts) > 0) != good {
		t.Fatalf("P20.1: %s: %d posts, %s, want Txn %d, Result %d", what, len(posts), short(a), txn, result)
	}
}

// Each list that may not be is refused; what is refused takes a number, but no name and no question's number.
func TestWrongPairs(t *testing.T) {
	for _, parts := range []int{1, 4, 64} {
		c := fresh(t, me, parts, 0)
		txn, id, req := 0, one, uint64(1)
		for what, l := range pairLists() {
			txn++
			posts, a := c.Write(l.pairs)
			begins(t, what, l.good, txn, posts, a)
			if !l.good {
				if a.ID != 0 {
					t.Fatalf("P20.1: %s: a refused write has the name %d", what, a.ID)
				}
				continue
			}
			for i, p := range posts {
				if p.Message.Req != req+uint64(i) || p.Message.ID != id {
					t.Fatalf("P20.2: %s: %s, want Req %d, ID %d", what, short(p), req+uint64(i), id)
				}
			}
			if a.ID != id {
				t.Fatalf("P20.2: %s: the name %d, want %d", what, a.ID, id)
			}
			id, req = id+65536, req+uint64(len(posts))
		}
	}
}

func TestWrongKeys(t *testing.T) {
	for _, parts := range []int{1, 4, 64} {
		c := fresh(t, me, parts, 0)
		txn, req := 0, uint64(1)
		for what, l := range keyLists() {
			txn++
			posts, a := c.Read(l.keys)
			begins(t, what, l.good, txn, posts, a)
			for i, p := range posts {
				if p.Message.Req != req+uint64(i) {
					t.Fatalf("P20.2: %s: %s, want Req %d", what, short(p), req+uint64(i))
				}
			}
			req += uint64(len(posts))
		}
		_, a := c.Write(pairsOf("a"))
		if a.ID != one || a.Txn != txn+1 {
			t.Fatalf("P20.2: reads took names: %s", short(a))
		}
	}
}

// The edges that may be are written and read to their ends.
func TestEdgesEnd(t *testing.T) {
	for _, parts := range []int{1, 64} {
		for what, l := range pairLists() {
			g := newTwins(t, me, parts, 0)
			g.write(t, l.pairs...)
			g.answerAll(t, nothing)
			g.answerAll(t, nothing)
			if l.good != (g.seen.result[1] == rsOK) {
				t.Fatalf("P20.5: %s ends %d", what, g.seen.result[1])
			}
		}
		for what, l := range keyLists() {
			g := newTwins(t, me, parts, 0)
			g.read(t, l.keys...)
			g.answerAll(t, nothing)
			if l.good != (g.seen.result[1] == rsOK) {
				t.Fatalf("P20.5: %s ends %d", what, g.seen.result[1])
			}
		}
	}
}

// keysIn are n keys of a partition, each of that length at least.
func keysIn(part, parts, n, length int) []string {
	var out []string
	text := strings.Repeat("x", length)
	// The long text is hashed once, not with each end that is tried.
	hash := hashOn(hashOfNothing, text)
	for i := 0; len(out) < n; i++ {
		if end := fmt.Sprintf("%05d", i); int(hashOn(hash, end)%uint64(parts)) == part {
			out = append(out, text+end)
		}
	}
	return out
}

// light has one key in each partition.
func light(parts int) []string {
	var out []string
	for part := range parts {
		out = append(out, "light "+keysIn(part, parts, 1, 0)[0])
	}
	return out
}

// heavyPairs is a write whose longest prepare, that to this partition, has just size bytes.
func heavyPairs(t *testing.T, parts, part, length, size int) []api.Pair {
	t.Helper()
	var pairs []api.Pair
	for _, key := range light(parts) {
		pairs = append(pairs, pair(key, "v"))
	}
	for _, key := range keysIn(part, parts, 17, length) {
		pairs = append(pairs, pair(key, ""))
	}
	for i := len(pairs) - 17; i < len(pairs); i++ {
		more := min(size-prepareSize(pairs, parts), maxText)
		pairs[i].Value = strings.Repeat("v", more)
	}
	if prepareSize(pairs, parts) != size {
		t.Fatalf("the prepare has %d bytes, want %d", prepareSize(pairs, parts), size)
	}
	return pairs
}

// heavyKeys is a read whose longest MsLatest, that to this partition, has just size bytes.
func heavyKeys(t *testing.T, parts, part, size int) []string {
	t.Helper()
	names := append(light(parts), keysIn(part, parts, 16, 61500)...)
	own := 10 + 4 + 4
	for _, key := range names {
		if placeOf(key, parts) == part {
			own += 4 + len(key)
		}
	}
	names = append(names, keysIn(part, parts, 1, size-own-5)...)
	if latestSize(names, parts) != size {
		t.Fatalf("the MsLatest has %d bytes, want %d", latestSize(names, parts), size)
	}
	return names
}

// longestOf is how many bytes the longest of these questions has, as layer 8 reckons it.
func longestOf(t *testing.T, posts []api.Post) int {
	t.Helper()
	most := 0
	for _, p := range posts {
		size, err := msg.Size(p.Message)
		if err != 0 {
			t.Fatalf("P20.1: msg.Size of %s: %d", short(p), err)
		}
		most = max(most, size)
	}
	return most
}

// A prepare just at MaxBody goes out; with one just above it the other partitions hear nothing either.
func TestPrepareAtMaxBody(t *testing.T) {
	for _, parts := range []int{1, 4, 64} {
		for _, part := range slices.Compact([]int{0, parts / 2, parts - 1}) {
			for _, length := range []int{0, 20000} {
				for _, more := range []int{-1, 0, 1, 2, 63, 64, 65} {
					g := newTwins(t, me, parts, 0)
					pairs := heavyPairs(t, parts, part, length, maxBody+more)
					posts, a := fresh(t, me, parts, 0).Write(pairs)
					what := fmt.Sprintf("a prepare of MaxBody and %d, to %d of %d", more, part, parts)
					begins(t, what, more <= 0, 1, posts, a)
					if size := longestOf(t, posts); more <= 0 && size != maxBody+more {
						t.Fatalf("P20.1: %s has %d bytes", what, size)
					}
					g.write(t, pairs...)
					g.write(t, pairsOf("a")...)
				}
			}
		}
	}
}

// What counts is each prepare by itself: a write of many of them may be far longer.
func TestManyLongPrepares(t *testing.T) {
	value := strings.Repeat("v", maxText)
	for _, c := range []struct {
		parts, each int
		good        bool
	}{{8, 15, true}, {8, 16, false}, {64, 15, true}, {64, 16, false}} {
		var pairs []api.Pair
		for part := range c.parts {
			for _, key := range keysIn(part, c.parts, c.each, 0) {
				pairs = append(pairs, pair(key, value))
			}
		}
		posts, a := fresh(t, me, c.parts, 0).Write(pairs)
		begins(t, fmt.Sprintf("%d great values to each of %d", c.each, c.parts), c.good && len(pairs) <= maxSet, 1, posts, a)
	}
}

// Each prepare has all the keys of the write: these alone may be too many bytes, with each partition's own pairs short.
func TestKeysOfAPrepare(t *testing.T) {
	for _, c := range []struct {
		n, length int
		good      bool
	}{{64, 16000, true}, {64, 16400, false}, {15, 65000, true}, {17, 65000, false}} {
		var pairs []api.Pair
		for i := range c.n {
			pairs = append(pairs, pair(keysIn(i, 64, 1, c.length)[0], ""))
		}
		posts, a := fresh(t, me, 64, 0).Write(pairs)
		begins(t, fmt.Sprintf("%d keys of %d bytes", c.n, c.length), c.good, 1, posts, a)
	}
}

// An MsLatest just at MaxAsk goes out, and the MsByID of its keys has room in a frame; one above it is refused.
func TestLatestAtMaxAsk(t *testing.T) {
	for _, parts := range []int{1, 4, 64} {
		for _, part := range slices.Compact([]int{0, parts / 2, parts - 1}) {
			for _, more := range []int{-1, 0, 1, 2, 16384, 16385} {
				names := heavyKeys(t, parts, part, maxAsk+more)
				posts, a := fresh(t, me, parts, 0).Read(names)
				what := fmt.Sprintf("an MsLatest of MaxAsk and %d, to %d of %d", more, part, parts)
				begins(t, what, more <= 0, 1, posts, a)
				if size := longestOf(t, posts); more <= 0 && size != maxAsk+more {
					t.Fatalf("P20.1: %s has %d bytes", what, size)
				}
				g := newTwins(t, me, parts, 0)
				g.read(t, names...)
				g.read(t, "a")
			}
		}
	}
}

// What counts is each MsLatest by itself.
func TestManyLongLatests(t *testing.T) {
	for _, c := range []struct {
		parts, each int
		good        bool
	}{{8, 17, true}, {8, 18, false}, {64, 16, true}, {64, 17, false}} {
		var names []string
		for part := range c.parts {
			names = append(names, keysIn(part, c.parts, c.each, 60000)...)
		}
		posts, a := fresh(t, me, c.parts, 0).Read(names)
		begins(t, fmt.Sprintf("%d great keys of each of %d", c.each, c.parts), c.good, 1, posts, a)
	}
}

// The 64th request goes out, the 65th doesn't, whatever it asks, until one of the 64 has ended.
func TestSixtyFive(t *testing.T) {
	ends := map[string]func(g *twins){
		"a write given up": func(g *twins) { g.give(t, 1) },
		"a read given up":  func(g *twins) { g.give(t, 64) },
		"a write done": func(g *twins) {
			g.receive(t, 0, prepared(1, one))
			g.receive(t, 0, committed(65, one))
		},
		"a read done": func(g *twins) { g.receive(t, 1, brings(2, bottom("b"))) },
	}
	for what, end := range ends {
		g := newTwins(t, me, 4, 0)
		for i := range maxPending {
			if i%2 == 0 {
				g.write(t, pair("a", fmt.Sprint(i)))
			} else {
				g.read(t, "b")
			}
		}
		if n := len(g.c.Pending()); n != 64 {
			t.Fatalf("P20.1: %d are pending", n)
		}
		refused := func() {
			t.Helper()
			for _, f := range []func(){
				func() { g.write(t, pairsOf("a")...) }, func() { g.write(t, pairsOf("a", "a")...) }, func() { g.write(t) },
				func() { g.read(t, "b") }, func() { g.read(t, "b", "b") }, func() { g.read(t) },
			} {
				f()
				if txn := g.seen.txns; g.seen.result[txn] != rsInvalid {
					t.Fatalf("P20.1: request %d is %d while 64 are pending", txn, g.seen.result[txn])
				}
			}
		}
		refused()
		end(g)
		if n := len(g.c.Pending()); n != 63 {
			t.Fatalf("P20.1: %s: %d are pending", what, n)
		}
		g.write(t, pairsOf("a", "a")...)
		g.write(t, pairsOf("a")...)
		if g.seen.result[g.seen.txns] != pending || g.seen.seq != 34 {
			t.Fatalf("P20.2: behind %s: the next write is %d, the sequence %d", what, g.seen.result[g.seen.txns], g.seen.seq)
		}
		refused()
		g.tick(t)
		for range 2 {
			g.answerAll(t, nothing)
		}
		pendingIs(t, what, g.c)
		g.read(t, "b")
		pendingIs(t, what, g.c, g.seen.txns)
	}
}

// Behind the last name there is none, for ever; reads go on; what may not be is RsInvalid first.
func TestTheLastName(t *testing.T) {
	for _, left := range []int{0, 1, 2, 5} {
		g := newTwins(t, me, 4, maxSeq-uint64(left))
		for i := range left + 1 {
			g.write(t, pairsOf("a", "b")...)
			if g.seen.result[i+1] != pending {
				t.Fatalf("P20.1: with %d names left a write is %d", left+1-i, g.seen.result[i+1])
			}
		}
		resultIs := func(what string, want int) {
			t.Helper()
			if got := g.seen.result[g.seen.txns]; got != want {
				t.Fatalf("P20.1: without a name %s is %d, want %d", what, got, want)
			}
		}
		for range 3 {
			g.write(t, pairsOf("a")...)
			resultIs("a write", rsExhausted)
			g.write(t, pairsOf("a", "a")...)
			resultIs("a twice", rsInvalid)
			g.write(t, heavyPairs(t, 4, 1, 0, maxBody+1)...)
			resultIs("a write that is too long", rsInvalid)
			g.write(t, heavyPairs(t, 4, 1, 0, maxBody)...)
			resultIs("a long write", rsExhausted)
			g.read(t, "a", "b")
			resultIs("a read", pending)
			g.answerAll(t, nothing)
		}
		for len(g.c.Pending()) < maxPending {
			g.read(t, "a")
		}
		g.write(t, pairsOf("a")...)
		resultIs("a write too many", rsInvalid)
		g.give(t, g.c.Pending()[0])
		g.write(t, pairsOf("a")...)
		resultIs("a write", rsExhausted)
	}
}

// Each call in each state.

// The requests of the states: over four partitions a is in 0, b and the empty key in 1, c in 2. The write one is of a and b.
func ofOne(key string) api.Version {
	return version(key, api.ID(65536), "", "a", "b", "c")
}

// torn has the write 65536 committed for a alone.
func torn(p api.Post, key string) api.Version {
	if p.Message.Kind == kLatest && key != "a" {
		return bottom(key)
	}
	return ofOne(key)
}

// gone has one of its versions collected.
func gone(p api.Post, key string) api.Version {
	if p.Message.Kind == kByID && key == "" {
		return bottom(key)
	}
	return torn(p, key)
}

type step func(t *testing.T, g *twins)

func steps(l ...step) step {
	return func(t *testing.T, g *twins) {
		t.Helper()
		for _, f := range l {
			f(t, g)
		}
	}
}

func writes(keys ...string) step {
	return func(t *testing.T, g *twins) { g.write(t, pairsOf(keys...)...) }
}

func reads(keys ...string) step {
	return func(t *testing.T, g *twins) { g.read(t, keys...) }
}

func all(has holder) step {
	return func(t *testing.T, g *twins) { g.answerAll(t, has) }
}

// first answers the first question that is open, last the last one.
func first(t *testing.T, g *twins) {
	if l := g.open(); len(l) > 0 {
		g.answer(t, l[0], torn)
	}
}

func last(t *testing.T, g *twins) {
	if l := g.open(); len(l) > 0 {
		g.answer(t, l[len(l)-1], torn)
	}
}

func tick(t *testing.T, g *twins) { g.tick(t) }

func stop(t *testing.T, g *twins) { g.stop(t) }

func gives(txn int) step {
	return func(t *testing.T, g *twins) { g.give(t, txn) }
}

type state struct {
	what    string
	reach   step
	pending []int
	again   []api.Post
}

func ab() []string { return []string{"a", "b"} }

// states bring a client to where their names say; what is pending and what a tick tells there stands by hand.
func states() []state {
	write, read := writes("b", "a"), reads("b", "a", "", "c")
	begun := []api.Post{prepare(0, 1, one, ab(), pair("a", "value 1")), prepare(1, 2, one, ab(), pair("b", "value 0"))}
	committing := []api.Post{commit(0, 3, one), commit(1, 4, one)}
	asking := []api.Post{latest(0, 1, "a"), latest(1, 2, "b", ""), latest(2, 3, "c")}
	fetching := []api.Post{byID(1, 4, want("b", 65536), want("", 65536)), byID(2, 5, want("c", 65536))}
	behind := []api.Post{latest(0, 3, "a"), latest(1, 4, "b", ""), latest(2, 5, "c")}
	return []state{
		{"new", steps(), nil, nil},
		{"behind refused ones", steps(writes("a", "a"), reads(), writes()), nil, nil},
		{"a write in its first round", write, []int{1}, begun},
		{"a write prepared at one", steps(write, last), []int{1}, begun[:1]},
		{"a write in its second round", steps(write, all(torn)), []int{1}, committing},
		{"a write committed at one", steps(write, all(torn), first), []int{1}, committing[1:]},
		{"a write behind RsOK", steps(write, all(torn), all(torn)), nil, nil},
		{"a write behind RsAborted", steps(write, first, gives(1)), nil, nil},
		{"a write behind RsUnknown", steps(write, all(torn), first, gives(1)), nil, nil},
		{"a read in its first round", read, []int{1}, asking},
		{"a read with one question done", steps(read, first), []int{1}, asking[1:]},
		{"a read in its second round", steps(read, all(torn)), []int{1}, fetching},
		{"a read with one second question done", steps(read, all(torn), last), []int{1}, fetching[:1]},
		{"a read behind RsOK", steps(read, all(torn), all(torn)), nil, nil},
		{"a read behind RsStale", steps(read, all(torn), all(gone)), nil, nil},
		{"a read behind RsAborted", steps(read, all(torn), first, gives(1)), nil, nil},
		{"both", steps(write, writes(), read), []int{1, 3}, append(slices.Clone(begun), behind...)},
		{"both, the write given up", steps(write, writes(), read, gives(1)), []int{3}, behind},
		{"both, the read given up", steps(write, writes(), read, gives(3)), []int{1}, begun},
		{"stopped", stop, nil, nil},
		{"stopped in a write", steps(write, stop), nil, nil},
		{"stopped in a write's second round", steps(write, all(torn), stop), nil, nil},
		{"stopped in a read", steps(read, all(torn), stop), nil, nil},
		{"stopped in both", steps(write, read, tick, stop), nil, nil},
		{"stopped behind all", steps(write, read, all(torn), all(torn), stop), nil, nil},
	}
}

func TestStatesByHand(t *testing.T) {
	for _, f := range states() {
		g := newTwins(t, me, 4, 0)
		f.reach(t, g)
		for range 2 {
			pendingIs(t, f.what, g.c, f.pending...)
			tells(t, f.what+": Tick", g.c.Tick(), f.again...)
		}
		if g.c.Stopped() != strings.HasPrefix(f.what, "stopped") {
			t.Errorf("P20.1: %s: Stopped = %v", f.what, g.c.Stopped())
		}
	}
}

type call struct {
	what string
	do   step
}

func receives(part int, m api.Message) call {
	return call{fmt.Sprintf("Receive(%d, %+v)", part, m), func(t *testing.T, g *twins) { g.receive(t, part, m) }}
}

// strayCalls are messages, most of which never count.
func strayCalls() []call {
	var out []call
	for _, part := range []int{-1, 0, 1, 2} {
		for _, req := range []uint64{0, 1, 2, 3, 4, 5, math.MaxUint64} {
			for kind := -1; kind < 10; kind++ {
				out = append(out, receives(part, says(kind, req, one)))
			}
			for _, id := range []api.ID{0, 65536, two, math.MaxUint64} {
				out = append(out, receives(part, prepared(req, id)), receives(part, committed(req, id)))
			}
			for _, v := range []api.Version{ofOne("b"), ofOne(""), bottom("a"), bottom("c"), ofOne("d")} {
				out = append(out, receives(part, brings(req, v)))
			}
		}
	}
	for _, client := range []int{math.MinInt, -1, 0, 2, 4, 15, 16, me + 16, me + 65536, math.MaxInt} {
		for req := range uint64(6) {
			for _, m := range []api.Message{prepared(req, one), committed(req, one), brings(req, ofOne("a")), brings(req, ofOne("b"))} {
				m.Client = client
				out = append(out, receives(0, m), receives(1, m))
			}
		}
	}
	return out
}

// plainCalls are all others.
func plainCalls() []call {
	out := []call{
		{"a write", writes("b", "a")}, {"a twice", writes("a", "a")}, {"a write of nothing", writes()},
		{"a read", reads("b", "a")}, {"a read of a twice", reads("a", "a")}, {"a read of nothing", reads()},
		{"Tick", tick}, {"Stop", stop},
	}
	for _, txn := range []int{math.MinInt, -1, 0, 1, 2, 3, 4, 5, 64, 65536, math.MaxInt} {
		out = append(out, call{fmt.Sprintf("Give(%d)", txn), gives(txn)})
	}
	return out
}

func TestEachCallInEachState(t *testing.T) {
	calls := append(plainCalls(), strayCalls()...)
	for _, f := range states() {
		for _, c := range calls {
			g := newTwins(t, me, 4, 0)
			f.reach(t, g)
			for range 2 {
				c.do(t, g)
				g.tick(t)
			}
			// It goes on as if nothing had been.
			g.answerAll(t, torn)
			g.answerAll(t, torn)
			g.write(t, pairsOf("c")...)
			g.read(t, "c")
			g.tick(t)
		}
	}
}

// A stopped client does nothing: each call, by hand.
func TestStopped(t *testing.T) {
	for _, f := range states() {
		g := newTwins(t, me, 4, 0)
		f.reach(t, g)
		open := g.open()
		c := g.c
		for range 2 {
			c.Stop()
			if !c.Stopped() {
				t.Fatalf("P20.1: %s: Stopped = false behind Stop", f.what)
			}
			pendingIs(t, f.what+", stopped", c)
			posts, a := c.Write(pairsOf("a"))
			tells(t, f.what+", stopped: Write", posts)
			answersIs(t, f.what+", stopped: Write", a, api.Answer{})
			posts, a = c.Write(nil)
			tells(t, f.what+", stopped: a wrong Write", posts)
			answersIs(t, f.what+", stopped: a wrong Write", a, api.Answer{})
			posts, a = c.Read([]string{"a"})
			tells(t, f.what+", stopped: Read", posts)
			answersIs(t, f.what+", stopped: Read", a, api.Answer{})
			posts, a = c.Read(nil)
			tells(t, f.what+", stopped: a wrong Read", posts)
			answersIs(t, f.what+", stopped: a wrong Read", a, api.Answer{})
			for _, p := range open {
				for _, m := range answersTo(p, torn) {
					for _, client := range []int{0, me} {
						m.Client = client
						posts, a = c.Receive(p.Part, m)
						tells(t, f.what+", stopped: Receive", posts)
						answersIs(t, f.what+", stopped: Receive", a, api.Answer{})
					}
				}
			}
			tells(t, f.what+", stopped: Tick", c.Tick())
			for _, txn := range append(f.pending, -1, 0, 1, 2, 3, 4) {
				if a, err := c.Give(txn); err != errArg || !sameAnswer(a, api.Answer{}) {
					t.Fatalf("P20.1: %s, stopped: Give(%d) = %s, %d", f.what, txn, short(a), err)
				}
			}
		}
	}
}

// Give, by hand.

func TestGive(t *testing.T) {
	c := fresh(t, me, 4, 0)
	gives := func(what string, txn int, want api.Answer, bad api.Errno) {
		t.Helper()
		a, err := c.Give(txn)
		answersIs(t, what, a, want)
		if err != bad {
			t.Fatalf("P20.1: %s: Give(%d) = %d, want %d", what, txn, err, bad)
		}
	}
	for _, txn := range []int{math.MinInt, -1, 0, 1, 2, math.MaxInt} {
		gives("nothing is pending", txn, api.Answer{}, errArg)
	}
	c.Write(pairsOf("a", "b"))
	gives("ahead of its commits", 1, api.Answer{Txn: 1, Result: rsAborted, ID: one}, 0)
	gives("once more", 1, api.Answer{}, errArg)
	c.Write(pairsOf("a", "b"))
	c.Receive(0, prepared(3, two))
	gives("prepared at one", 2, api.Answer{Txn: 2, Result: rsAborted, ID: two}, 0)
	posts, a := c.Receive(1, prepared(4, two))
	tells(t, "behind it", posts)
	answersIs(t, "behind it", a, api.Answer{})
	three := one + 2*65536
	c.Write(pairsOf("a", "b"))
	c.Receive(0, prepared(5, three))
	posts, _ = c.Receive(1, prepared(6, three))
	tells(t, "the commits", posts, commit(0, 7, three), commit(1, 8, three))
	c.Receive(0, committed(7, three))
	gives("behind its commits", 3, api.Answer{Txn: 3, Result: rsUnknown, ID: three}, 0)
	posts, a = c.Receive(1, committed(8, three))
	tells(t, "behind it", posts)
	answersIs(t, "behind it", a, api.Answer{})
	c.Write(nil)
	gives("a refused one", 4, api.Answer{}, errArg)
	c.Read(ab())
	gives("a read", 5, api.Answer{Txn: 5, Result: rsAborted}, 0)
	c.Read(ab())
	c.Receive(0, brings(11, version("a", 65536, "a", "b")))
	posts, _ = c.Receive(1, brings(12, bottom("b")))
	tells(t, "its second round", posts, byID(1, 13, want("b", 65536)))
	gives("a read in its second round", 6, api.Answer{Txn: 6, Result: rsAborted}, 0)
	posts, a = c.Receive(1, brings(13, version("b", 65536, "a", "b")))
	tells(t, "behind it", posts)
	answersIs(t, "behind it", a, api.Answer{})
	tells(t, "Tick, with nothing pending", c.Tick())
	pendingIs(t, "behind all", c)
}

// The answers of reads have their versions in the order of the keys, in one round and in two; stale ones have none.
func TestReadsByHand(t *testing.T) {
	for _, f := range []struct {
		what string
		has  holder
		want api.Answer
	}{
		{"nothing is there", nothing, api.Answer{Txn: 2, Result: rsOK, Versions: []api.Version{bottom("c"), bottom("a"), bottom("")}}},
		{"torn", torn, api.Answer{Txn: 2, Result: rsOK, Versions: []api.Version{ofOne("c"), ofOne("a"), ofOne("")}}},
		{"gone", gone, api.Answer{Txn: 2, Result: rsStale}},
	} {
		c := fresh(t, me, 4, 0)
		c.Write(pairsOf("z"))
		asked, _ := c.Read([]string{"c", "a", ""})
		var ended []api.Answer
		for i := 0; i < len(asked); i++ {
			for _, m := range answersTo(asked[i], f.has) {
				posts, a := c.Receive(asked[i].Part, m)
				asked = append(asked, posts...)
				if a.Result != 0 {
					ended = append(ended, a)
				}
			}
		}
		if len(ended) != 1 {
			t.Fatalf("P20.3: %s: the read ends %d times", f.what, len(ended))
		}
		answersIs(t, f.what, ended[0], f.want)
		pendingIs(t, f.what, c, 1)
	}
}

// An answer is matched by its question's number, not by its write: that of another pending write is none.
func TestOtherRequestsNumber(t *testing.T) {
	c := fresh(t, me, 4, 0)
	c.Write(pairsOf("a"))
	c.Write(pairsOf("a"))
	c.Read([]string{"a"})
	c.Read([]string{"a"})
	for _, m := range []api.Message{prepared(2, one), prepared(1, two), prepared(3, one), committed(1, one), brings(1, bottom("a")), brings(5, bottom("a"))} {
		posts, a := c.Receive(0, m)
		tells(t, short(m), posts)
		answersIs(t, short(m), a, api.Answer{})
	}
	posts, _ := c.Receive(0, prepared(2, two))
	tells(t, "the second write", posts, commit(0, 5, two))
	_, a := c.Receive(0, brings(4, bottom("a")))
	answersIs(t, "the second read", a, api.Answer{Txn: 4, Result: rsOK, Versions: []api.Version{bottom("a")}})
	tells(t, "Tick", c.Tick(), prepare(0, 1, one, []string{"a"}, pairsOf("a")...), commit(0, 5, two), latest(0, 3, "a"))
	pendingIs(t, "the others", c, 1, 2, 3)
}

// A tick tells by the requests' numbers, not by their questions'.
func TestTickInOrder(t *testing.T) {
	g := newTwins(t, me, 1, 0)
	for range maxPending / 2 {
		g.write(t, pairsOf("a")...)
		g.read(t, "a")
	}
	for _, p := range slices.Backward(g.open()) {
		if p.Message.Kind == kPrepare && p.Message.Req%4 == 1 {
			g.answer(t, p, nothing)
		}
	}
	posts := g.c.Tick()
	if len(posts) != maxPending {
		t.Fatalf("P20.1: a tick tells %d posts", len(posts))
	}
	for i, p := range posts {
		if txn := g.seen.owner[p.Message.Req]; txn != i+1 {
			t.Fatalf("P20.1: post %d of a tick is of request %d", i, txn)
		}
	}
	tells(t, "once more", g.c.Tick(), posts...)
}

// All short scripts.

// scripts calls f with each list of n of these calls.
func scripts(calls []call, n int, f func(script []call)) {
	script := make([]call, n)
	var put func(i int)
	put = func(i int) {
		if i == n {
			f(script)
			return
		}
		for _, c := range calls {
			script[i] = c
			put(i + 1)
		}
	}
	put(0)
}

// twice answers the first open question twice, and nacks it.
func twice(t *testing.T, g *twins) {
	l := g.open()
	if len(l) == 0 {
		return
	}
	nack := api.Message{Kind: kNack, Client: l[0].Message.Client, Req: l[0].Message.Req, ID: l[0].Message.ID}
	g.receive(t, l[0].Part, nack)
	g.answer(t, l[0], torn)
	g.answer(t, l[0], torn)
	g.receive(t, l[0].Part, nack)
}

func shortCalls() []call {
	return []call{
		{"a write", writes("b", "a")}, {"a short write", writes("c")}, {"a twice", writes("a", "a")},
		{"a read", reads("b", "a")}, {"a read of nothing", reads()},
		{"the first answer", first}, {"the last answer", last}, {"an answer twice", twice},
		{"Tick", tick}, {"Give(1)", gives(1)}, {"Give(2)", gives(2)}, {"Stop", stop},
	}
}

// With two names left: each script sees the last one soon.
func TestShortScripts(t *testing.T) {
	scripts(shortCalls(), 4, func(script []call) {
		g := newTwins(t, me, 4, maxSeq-1)
		for _, c := range script {
			c.do(t, g)
		}
		g.answerAll(t, torn)
	})
}

func TestShortScriptsInTheMidst(t *testing.T) {
	for _, reach := range []step{
		steps(writes("a", "b"), reads("a", "b", "c")),
		steps(writes("a", "b"), reads("a", "b", "c"), all(torn)),
		steps(reads("c", "a"), writes("a"), writes("b", "a"), first, last),
	} {
		scripts(shortCalls(), 3, func(script []call) {
			g := newTwins(t, me, 4, 0)
			reach(t, g)
			for _, c := range script {
				c.do(t, g)
			}
			g.answerAll(t, torn)
			g.answerAll(t, torn)
			g.tick(t)
		})
	}
}

// Chance.

type chance struct{ *rand.Rand }

func newChance(seed int) chance { return chance{rand.New(rand.NewSource(int64(seed)))} }

func pick[T any](c chance, l ...T) T { return l[c.Intn(len(l))] }

func (c chance) text() string {
	b := make([]byte, c.Intn(4))
	for i := range b {
		b[i] = byte(c.Intn(256))
	}
	return string(b)
}

// keys are some keys that may be read.
func (c chance) keys() []string {
	var out []string
	for range 1 + c.Intn(pick(c, 2, 4, 12)) {
		key := pick(c, "a", "b", "c", "d", "", c.text())
		if !slices.Contains(out, key) {
			out = append(out, key)
		}
	}
	return out
}

func (c chance) pairs() []api.Pair {
	var out []api.Pair
	for _, key := range c.keys() {
		out = append(out, pair(key, c.text()))
	}
	return out
}

// wrong are keys that may not be.
func (c chance) wrong() []string {
	l := c.keys()
	return pick(c, nil, append(l, l[c.Intn(len(l))]), named(1025), []string{strings.Repeat("w", 65536)})
}

func (c chance) parts() int { return pick(c, 1, 2, 3, 4, 7, 63, 64, 1+c.Intn(64)) }

// has is some version of a key: of a write of several keys, or bottom; a fetched one as it was wanted, or gone.
func (c chance) has(p api.Post, key string) api.Version {
	for _, w := range p.Message.Wants {
		if w.Key == key && c.Intn(6) > 0 {
			return ofWrite(w.ID, key)
		}
	}
	if p.Message.Kind == kByID || c.Intn(4) == 0 {
		return bottom(key)
	}
	return ofWrite(api.ID(1+c.Intn(3))<<16, key)
}

// ofWrite is a version of a key; each of the writes has all these keys, and that one.
func ofWrite(id api.ID, key string) api.Version {
	keys := []string{"", "a", "b", "c", "d"}
	if !slices.Contains(keys, key) {
		keys = append(keys, key)
		slices.Sort(keys)
	}
	return version(key, id, keys...)
}

// stray is a message that looks like an answer.
func (c chance) stray(number int, asked []api.Post) (int, api.Message) {
	p := pick(c, asked...)
	m := pick(c, answersTo(p, c.has)...)
	part := p.Part
	switch c.Intn(7) {
	case 0:
		part = pick(c, -1, part+1, part-1, c.Intn(64), math.MaxInt)
	case 1:
		m.Client = pick(c, -1, number+1, number-1, c.Intn(16), 16, number+65536)
	case 2:
		m.Req = pick(c, 0, m.Req+1, m.Req-1, uint64(c.Intn(50)), math.MaxUint64)
	case 3:
		m.ID = pick(c, 0, m.ID+1, m.ID+65536, m.ID-65536)
	case 4:
		m.Kind = c.Intn(10) - 1
	case 5:
		m.Versions = pick(c, nil, append(m.Versions, bottom("a")), []api.Version{bottom("strange")}, []api.Version{{Key: "a", ID: 7}})
	}
	return part, m
}

// step does one call by chance.
func (g *twins) step(t *testing.T, c chance) {
	t.Helper()
	var asked []api.Post
	for req := uint64(1); req <= g.seen.reqs; req++ {
		asked = append(asked, g.seen.asked[req])
	}
	open := g.open()
	switch n := c.Intn(100); {
	case n < 10:
		g.write(t, c.pairs()...)
	case n < 20:
		g.read(t, c.keys()...)
	case n < 22:
		g.write(t, pairsOf(c.wrong()...)...)
	case n < 24:
		g.read(t, c.wrong()...)
	case n < 70 && len(open) > 0:
		p := pick(c, open...)
		g.receive(t, p.Part, pick(c, answersTo(p, c.has)...))
	case n < 86 && len(asked) > 0:
		part, m := c.stray(g.seen.number, asked)
		g.receive(t, part, m)
	case n < 90:
		g.tick(t)
	case n < 95 && g.seen.txns > 0:
		g.give(t, 1+c.Intn(g.seen.txns))
	case n < 96:
		g.give(t, pick(c, -1, 0, g.seen.txns+1, math.MaxInt))
	case n == 99 && c.Intn(20) == 0:
		g.stop(t)
	}
}

func (c chance) twins(t *testing.T) *twins {
	t.Helper()
	return newTwins(t, c.Intn(16), c.parts(), pick(c, 0, 1, 7, maxSeq-uint64(c.Intn(10)), 1+uint64(c.Int63n(maxSeq))))
}

func TestScriptsByChance(t *testing.T) {
	results := map[int]int{}
	for seed := range 1200 {
		c := newChance(seed)
		g := c.twins(t)
		for range 10 + c.Intn(60) {
			g.step(t, c)
		}
		for range 2 {
			g.answerAll(t, c.has)
		}
		if l := g.c.Pending(); len(l) > 0 {
			t.Fatalf("P20.5: pending are %v when all is answered, behind %q", l, g.script)
		}
		for txn := range g.seen.txns {
			results[g.seen.result[txn+1]]++
		}
	}
	for _, result := range []int{rsOK, rsStale, rsAborted, rsUnknown, rsInvalid, rsExhausted} {
		if results[result] < 100 {
			t.Errorf("the requests end %v: too few %d", results, result)
		}
	}
}

// Long scripts with many requests at a time: most of them near the 64.
func TestCrowdsByChance(t *testing.T) {
	full := 0
	for seed := range 20 {
		c := newChance(10000 + seed)
		g := newTwins(t, c.Intn(16), c.parts(), 0)
		for range 400 {
			if len(g.x.pending()) < 50 || c.Intn(3) == 0 {
				g.write(t, pick(c, pairsOf("a"), c.pairs())...)
				g.read(t, c.keys()...)
			}
			if len(g.x.pending()) == maxPending {
				full++
			}
			g.step(t, c)
		}
	}
	if full < 300 {
		t.Errorf("64 requests are pending at %d steps", full)
	}
}

// Two clients by turns, alike in all or in nothing: each does as its own model, which knows nothing of the other.
func TestTwoByTurns(t *testing.T) {
	for seed := range 400 {
		c := newChance(20000 + seed)
		a, b := c.twins(t), c.twins(t)
		if c.Intn(2) == 0 {
			b = newTwins(t, a.x.number, a.x.parts, a.x.seq)
		}
		for range 60 {
			g := pick(c, a, b)
			g.step(t, c)
			// What the one asked is answered to both.
			if open := g.open(); len(open) > 0 && c.Intn(3) == 0 {
				p := pick(c, open...)
				m := pick(c, answersTo(p, c.has)...)
				a.receive(t, p.Part, m)
				b.receive(t, p.Part, m)
			}
		}
		a.looks(t)
		b.looks(t)
	}
}

// P20.4.

// alone is a request with what comes for it, each thing at its turn.
type alone struct {
	pairs  []api.Pair
	keys   []string
	events []event
}

// event answers the question of that turn (from the request's own first one on), gives the request up, or nacks.
type event struct {
	kind     int
	question int
	key      int
	seed     int
}

// has is some version of a key, the same whenever the event is.
func (e event) has(p api.Post, key string) api.Version {
	for _, w := range p.Message.Wants {
		if w.Key == key && e.seed%6 > 0 {
			return ofWrite(w.ID, key)
		}
	}
	if p.Message.Kind == kByID || e.seed%4 == 0 {
		return bottom(key)
	}
	return ofWrite(api.ID(1+e.seed%3)<<16, key)
}

const (
	evAnswer = iota
	evGive
	evNack
	evTick
)

func (c chance) request() alone {
	var r alone
	if c.Intn(2) == 0 {
		r.pairs = c.pairs()
	} else {
		r.keys = c.keys()
	}
	for range 30 {
		r.events = append(r.events, event{evAnswer, c.Intn(8), c.Intn(4), c.Int()})
	}
	for range c.Intn(4) {
		r.events[c.Intn(30)].kind = pick(c, evNack, evTick)
	}
	if c.Intn(4) == 0 {
		r.events[c.Intn(30)].kind = evGive
	}
	return r
}

// course is what one request of a client comes to: its questions, its second rounds and its answer, as far as they tell
// nothing of how many others there are.
type course struct {
	c     *Client
	txn   int
	id    api.ID
	asked []api.Post
	told  []string
}

// tell writes down what was told of the request, with its questions' numbers from its own first one on.
func (o *course) tell(posts []api.Post, a api.Answer) {
	o.asked = append(o.asked, copyPosts(posts)...)
	for _, p := range posts {
		p = copyPost(p)
		i := slices.IndexFunc(o.asked, func(q api.Post) bool { return q.Message.Req == p.Message.Req })
		p.Message.Req = uint64(i + 1)
		o.told = append(o.told, fmt.Sprintf("%+v", p))
	}
	if a.Result != 0 {
		a.Txn -= o.txn
		o.told = append(o.told, fmt.Sprintf("%+v", a))
	}
}

func beginCourse(c *Client, r alone) *course {
	o := &course{c: c}
	var posts []api.Post
	var a api.Answer
	if r.keys != nil {
		posts, a = c.Read(r.keys)
	} else {
		posts, a = c.Write(r.pairs)
	}
	o.txn, o.id = a.Txn, a.ID
	o.tell(posts, api.Answer{})
	return o
}

// goesOn does the request's next event.
func (o *course) goesOn(e event) {
	switch e.kind {
	case evGive:
		if a, err := o.c.Give(o.txn); err == 0 {
			o.tell(nil, a)
		} else {
			o.told = append(o.told, "no such")
		}
		return
	case evTick:
		var own []string
		for _, p := range o.c.Tick() {
			if i := slices.IndexFunc(o.asked, func(q api.Post) bool { return q.Message.Req == p.Message.Req }); i >= 0 {
				p.Message.Req = uint64(i + 1)
				own = append(own, fmt.Sprintf("%+v", p))
			}
		}
		o.told = append(o.told, fmt.Sprint("a tick: ", own))
		return
	}
	p := o.asked[e.question%len(o.asked)]
	answers := answersTo(p, e.has)
	m := answers[e.key%len(answers)]
	if e.kind == evNack {
		m = api.Message{Kind: kNack, Client: m.Client, Req: m.Req, ID: m.ID}
	}
	o.tell(o.c.Receive(p.Part, m))
}

// Each request ends as it would alone, with the same questions, whatever comes for others between.
func TestSideBySide(t *testing.T) {
	ended := map[string]int{}
	for seed := range 1000 {
		c := newChance(30000 + seed)
		parts, number := c.parts(), c.Intn(16)
		var requests []alone
		for range 1 + c.Intn(pick(c, 3, 8, 40)) {
			requests = append(requests, c.request())
		}
		together := fresh(t, number, parts, 5)
		var courses []*course
		var turns []int
		for i := range requests {
			for range len(requests[i].events) + 1 {
				turns = append(turns, i)
			}
			courses = append(courses, nil)
		}
		c.Shuffle(len(turns), func(i, j int) { turns[i], turns[j] = turns[j], turns[i] })
		done := make([]int, len(requests))
		for _, i := range turns {
			if courses[i] == nil {
				courses[i] = beginCourse(together, requests[i])
				continue
			}
			courses[i].goesOn(requests[i].events[done[i]])
			done[i]++
		}
		for i, r := range requests {
			seq := uint64(courses[i].id) >> 16
			o := beginCourse(fresh(t, number, parts, seq), r)
			for _, e := range r.events {
				o.goesOn(e)
			}
			if !slices.Equal(o.told, courses[i].told) {
				t.Fatalf("P20.4: seed %d: request %s alone: %q, side by side: %q", seed, short(r), o.told, courses[i].told)
			}
			for _, s := range o.told {
				if k := strings.Index(s, "Result:"); k >= 0 {
					ended[s[k:k+8]]++
				}
			}
		}
	}
	for _, result := range []int{rsOK, rsStale, rsAborted, rsUnknown} {
		if ended[fmt.Sprint("Result:", result)] < 100 {
			t.Errorf("P20.4: the requests end %v", ended)
		}
	}
}

// P20.5.

type arrival struct {
	client, part int
	m            api.Message
}

// takeAny takes one thing out of a list by chance.
func takeAny[T any](c chance, l *[]T) T {
	i := c.Intn(len(*l))
	x := (*l)[i]
	*l = slices.Delete(*l, i, i+1)
	return x
}

// run is clients and partitions as they are built, with the frames between them.
type run struct {
	chance
	parts     []*part.Part
	clients   []*Client
	questions []arrival
	answers   []arrival
	ended     []map[int]api.Answer
}

func newRun(t *testing.T, c chance, parts, clients int, retain int64) *run {
	t.Helper()
	r := &run{chance: c}
	for i := range parts {
		p, err := part.Open(disk.New(), i, api.Config{Parts: parts, Retain: retain})
		if err != 0 {
			t.Fatalf("part.Open: %d", err)
		}
		r.parts = append(r.parts, p)
	}
	for i := range clients {
		r.clients = append(r.clients, fresh(t, i, parts, 0))
		r.ended = append(r.ended, map[int]api.Answer{})
	}
	return r
}

// goOut puts posts under way, some of them twice.
func (r *run) goOut(client int, posts []api.Post) {
	for _, p := range posts {
		for range 1 + r.Intn(5)/4 {
			r.questions = append(r.questions, arrival{client, p.Part, copyPost(p).Message})
		}
	}
}

// ends writes an answer down: a request has one at most.
func (r *run) ends(t *testing.T, client int, a api.Answer) {
	t.Helper()
	if a.Result == 0 {
		return
	}
	if was, twice := r.ended[client][a.Txn]; twice {
		t.Fatalf("P20.3: request %d of %d ends twice: %s, %s", a.Txn, client, short(was), short(a))
	}
	r.ended[client][a.Txn] = copyAnswer(a)
}

// goesOn lets some frame come, each by chance, some again later.
func (r *run) goesOn(t *testing.T) {
	t.Helper()
	if len(r.questions) > 0 && (len(r.answers) == 0 || r.Intn(2) == 0) {
		q := takeAny(r.chance, &r.questions)
		back, err := r.parts[q.part].Handle(q.m)
		if err != 0 {
			t.Fatalf("P20.1: a partition refuses %s: %d", short(q.m), err)
		}
		for _, m := range back {
			for range 1 + r.Intn(5)/4 {
				r.answers = append(r.answers, arrival{q.client, q.part, m})
			}
		}
		return
	}
	if len(r.answers) == 0 {
		return
	}
	a := takeAny(r.chance, &r.answers)
	posts, answer := r.clients[a.client].Receive(a.part, a.m)
	r.goOut(a.client, posts)
	r.ends(t, a.client, answer)
	// It is nothing to another client, and nothing more to this one.
	other := r.Intn(len(r.clients))
	posts, answer = r.clients[other].Receive(a.part, a.m)
	if len(posts) > 0 || !sameAnswer(answer, api.Answer{}) {
		t.Fatalf("P20.1: client %d takes %s, which came for %d: %s, %s", other, short(a.m), a.client, short(posts), short(answer))
	}
}

// Everything that is told is answered by partitions, in any order, again and again: nothing is pending then.
func TestItEnds(t *testing.T) {
	results := map[int]int{}
	for seed := range 400 {
		c := newChance(40000 + seed)
		retain := pick(c, int64(0), 1, 1000)
		r := newRun(t, c, pick(c, 1, 2, 4, 7), 1+c.Intn(4), retain)
		keys := c.keys()
		written := map[api.ID][]api.Pair{}
		kinds := map[[2]int]bool{}
		for range 60 + c.Intn(60) {
			i := c.Intn(len(r.clients))
			switch c.Intn(8) {
			case 0:
				var pairs []api.Pair
				for _, key := range keys {
					if c.Intn(3) > 0 {
						pairs = append(pairs, pair(key, c.text()))
					}
				}
				posts, a := r.clients[i].Write(pairs)
				r.goOut(i, posts)
				r.ends(t, i, a)
				written[a.ID], kinds[[2]int{i, a.Txn}] = pairs, true
			case 1:
				posts, a := r.clients[i].Read(keys)
				r.goOut(i, posts)
				r.ends(t, i, a)
			case 2:
				r.goOut(i, r.clients[i].Tick())
			case 3:
				r.parts[c.Intn(len(r.parts))].Tick()
			default:
				r.goesOn(t)
			}
		}
		for len(r.questions)+len(r.answers) > 0 {
			r.goesOn(t)
		}
		for i, client := range r.clients {
			pendingIs(t, fmt.Sprintf("P20.5: seed %d, client %d, all answered", seed, i), client)
			tells(t, "P20.5: Tick", client.Tick())
			for txn, a := range r.ended[i] {
				results[a.Result]++
				isWrite := kinds[[2]int{i, txn}]
				if isWrite && a.Result != rsOK && a.Result != rsInvalid || a.Result == rsStale && retain == 1000 {
					t.Fatalf("P20.5: seed %d: request %d of %d ends %s", seed, txn, i, short(a))
				}
				if a.Result == rsOK && !isWrite {
					isWhole(t, fmt.Sprint("seed ", seed), keys, written, a.Versions)
				}
			}
		}
	}
	if results[rsOK] < 3000 || results[rsStale] < 1 || results[rsAborted]+results[rsUnknown]+results[rsExhausted] > 0 {
		t.Errorf("P20.5: the requests end %v", results)
	}
}

// isWhole holds what a read told against all that was written: each version as it was written, each write whole.
func isWhole(t *testing.T, what string, keys []string, written map[api.ID][]api.Pair, got []api.Version) {
	t.Helper()
	if len(got) != len(keys) || !fix.Cut(got) {
		t.Fatalf("%s: %s is not whole", what, short(got))
	}
	for i, v := range got {
		if v.Key != keys[i] || v.ID != 0 && !slices.Contains(written[v.ID], pair(v.Key, v.Value)) {
			t.Fatalf("%s: %s is none of %s", what, short(v), short(written[v.ID]))
		}
	}
}

// Without ticks, without anything twice: the plain course of each request, over each number of partitions.
func TestItEndsPlainly(t *testing.T) {
	keys := named(40)
	for parts := 1; parts <= maxParts; parts++ {
		r := newRun(t, newChance(parts), parts, 1, 10)
		plainly := func(posts []api.Post, a api.Answer) api.Answer {
			t.Helper()
			for i := 0; i < len(posts); i++ {
				back, err := r.parts[posts[i].Part].Handle(posts[i].Message)
				if err != 0 {
					t.Fatalf("P20.1: a partition refuses %s: %d", short(posts[i]), err)
				}
				for _, m := range back {
					var more []api.Post
					more, a = r.clients[0].Receive(posts[i].Part, m)
					posts = append(posts, more...)
				}
			}
			return a
		}
		answersIs(t, "the write", plainly(r.clients[0].Write(pairsOf(keys...))), api.Answer{Txn: 1, Result: rsOK, ID: 65536})
		ought := api.Answer{Txn: 2, Result: rsOK}
		for i, key := range keys {
			ought.Versions = append(ought.Versions, api.Version{Key: key, ID: 65536, Value: fmt.Sprint("value ", i), Keys: keys})
		}
		answersIs(t, "the read", plainly(r.clients[0].Read(keys)), ought)
		pendingIs(t, "at the end", r.clients[0])
	}
}

// P20.6.

// What one answer told stays, whatever is done to the next one, and to the client; what is told later knows nothing of it.
func TestToldIsNewMemory(t *testing.T) {
	c := fresh(t, me, 4, 0)
	var kept, were [][]api.Post
	keep := func(posts []api.Post, _ api.Answer) []api.Post {
		kept, were = append(kept, posts), append(were, copyPosts(posts))
		return copyPosts(posts)
	}
	asked := keep(c.Write(pairsOf("b", "a", "c")))
	asked = append(asked, keep(c.Read([]string{"c", "", "a"}))...)
	for i := 0; i < len(asked); i++ {
		for _, m := range answersTo(asked[i], torn) {
			again := c.Tick()
			was := copyPosts(again)
			if !spoilPosts(again, was) {
				t.Fatal("P20.6: posts of one answer share memory")
			}
			keep(c.Tick(), api.Answer{})
			posts, a := c.Receive(asked[i].Part, m)
			asked = append(asked, keep(posts, a)...)
			versions := copyVersions(a.Versions)
			if !spoilVersions(a.Versions, versions) {
				t.Fatal("P20.6: versions of one answer share memory")
			}
		}
	}
	for i := range kept {
		tells(t, "P20.6: what was told earlier", kept[i], were[i]...)
	}
	pendingIs(t, "at the end", c)
}

func TestPendingIsNewMemory(t *testing.T) {
	c := fresh(t, me, 4, 0)
	for range 3 {
		c.Read([]string{"a"})
	}
	was := c.Pending()
	for range 3 {
		l := c.Pending()
		fill(l, 9)
		_ = append(l, 8)
		pendingIs(t, "P20.6: behind writing over it", c, 1, 2, 3)
	}
	c.Give(2)
	if !slices.Equal(was, []int{1, 2, 3}) {
		t.Errorf("P20.6: what was told is now %v", was)
	}
}

// What is handed in is written over at once; the requests go on with what it was.
func TestHandedInIsNotKept(t *testing.T) {
	c := fresh(t, me, 4, 0)
	pairs, names := roomy(pairsOf("b", "a"), pair("spare", "")), roomy([]string{"b", "a"}, "spare")
	c.Write(pairs)
	c.Read(names)
	fill(pairs, pair("spoilt", "spoilt"))
	fill(names, "spoilt")
	tells(t, "P20.6: Tick", c.Tick(), prepare(0, 1, one, ab(), pair("a", "value 1")), prepare(1, 2, one, ab(), pair("b", "value 0")), latest(0, 3, "a"), latest(1, 4, "b"))
	var a api.Answer
	for _, x := range []arrival{{0, 0, brings(3, version("a", 65536, "a", "b"))}, {0, 1, brings(4, bottom("b"))}, {0, 1, brings(5, version("b", 65536, "a", "b"))}} {
		in := roomyMessage(x.m)
		_, a = c.Receive(x.part, in)
		if !sameMessage(whole(in), whole(roomyMessage(x.m))) {
			t.Fatalf("P20.6: Receive changed what it was handed: %s", short(whole(in)))
		}
		spoil(&in)
	}
	answersIs(t, "P20.6: the read", a, api.Answer{Txn: 2, Result: rsOK, Versions: []api.Version{version("b", 65536, "a", "b"), version("a", 65536, "a", "b")}})
}

func inUse() int64 {
	runtime.GC()
	runtime.GC()
	var m runtime.MemStats
	runtime.ReadMemStats(&m)
	return int64(m.HeapAlloc)
}

// A piece of a long text that is handed in doesn't keep all of it, neither in the client nor in what it tells.
func TestNoLongTextIsKept(t *testing.T) {
	before := inUse()
	c := fresh(t, me, 4, 0)
	var told [][]api.Post
	for i := range maxPending / 2 {
		long := strings.Repeat(fmt.Sprintf("%09d", i), 100000)
		posts, _ := c.Write([]api.Pair{pair(long[:9], long[1:5])})
		told = append(told, posts)
		posts, _ = c.Read([]string{long[:9], long[1:9]})
		for _, m := range answersTo(posts[0], func(p api.Post, key string) api.Version {
			piece := strings.Repeat(fmt.Sprintf("%09d", i), 100000)
			return api.Version{Key: piece[9-len(key) : 9], ID: 65536, Value: piece[:7], Keys: []string{piece[9-len(key) : 9]}}
		})[:1] {
			c.Receive(posts[0].Part, m)
		}
		told = append(told, posts)
	}
	if grown := inUse() - before; grown > 4<<20 {
		t.Errorf("P20.6: %d bytes are kept", grown)
	}
	runtime.KeepAlive(c)
	runtime.KeepAlive(told)
}

// Of a request that has ended nothing is kept, however it ended, nor of one that was refused, nor by a stopped client.
func TestNoMoreIsKept(t *testing.T) {
	value := strings.Repeat("v", 60000)
	before := inUse()
	c := fresh(t, me, 4, 0)
	asked := uint64(0)
	for i := range 5000 {
		big := []api.Pair{pair("a", strings.Clone(value)), pair("b", strings.Clone(value))}
		switch i % 5 {
		case 0:
			c.Write(append(big, big...))
			continue
		case 1:
			posts, a := c.Write(big)
			asked += uint64(len(posts))
			c.Give(a.Txn)
			continue
		case 2:
			posts, a := c.Read(ab())
			c.Receive(0, brings(posts[0].Message.Req, api.Version{Key: "a", ID: 65536, Value: strings.Clone(value), Keys: []string{"a"}}))
			asked += uint64(len(posts))
			c.Give(a.Txn)
			continue
		}
		var posts []api.Post
		if i%5 == 3 {
			posts, _ = c.Write(big)
		} else {
			posts, _ = c.Read(ab())
		}
		asked += uint64(len(posts))
		for k := 0; k < len(posts); k++ {
			for _, m := range answersTo(posts[k], func(_ api.Post, key string) api.Version {
				return api.Version{Key: key, ID: 65536, Value: strings.Clone(value), Keys: []string{key}}
			}) {
				more, _ := c.Receive(posts[k].Part, m)
				posts = append(posts, more...)
			}
		}
	}
	pendingIs(t, "behind 5000 requests", c)
	if grown := inUse() - before; grown > 1<<20 {
		t.Errorf("P20.6: %d bytes are kept of requests that have ended", grown)
	}
	for range maxPending {
		c.Write([]api.Pair{pair("a", strings.Clone(value)), pair("b", strings.Clone(value))})
	}
	c.Stop()
	if grown := inUse() - before; grown > 1<<20 {
		t.Errorf("P20.6: %d bytes are kept by a stopped client", grown)
	}
	runtime.KeepAlive(c)
}

// The rules.

// The same calls in the same order on new clients give the same answers.
func TestOneOutcome(t *testing.T) {
	var was []string
	for n := range 4 {
		c := fresh(t, me, 16, 0)
		var told []string
		tell := func(posts []api.Post, a api.Answer) {
			told = append(told, fmt.Sprintf("%+v %+v %v", posts, a, c.Pending()))
		}
		var asked []api.Post
		for i := range maxPending {
			var posts []api.Post
			var a api.Answer
			if i%3 == 0 {
				posts, a = c.Write(pairsOf(named(20)...))
			} else {
				posts, a = c.Read(named(20))
			}
			asked = append(asked, copyPosts(posts)...)
			tell(posts, a)
		}
		for i := 0; i < len(asked); i++ {
			for _, m := range answersTo(asked[i], torn) {
				posts, a := c.Receive(asked[i].Part, m)
				asked = append(asked, copyPosts(posts)...)
				tell(posts, a)
			}
			if i%20 == 0 {
				tell(c.Tick(), api.Answer{})
			}
		}
		if n > 0 && !slices.Equal(told, was) {
			t.Fatal("P20.1: there are two outcomes")
		}
		was = told
	}
}

// Great requests, many of them, in the time that there is.
func TestGreat(t *testing.T) {
	for _, parts := range []int{1, maxParts} {
		c := fresh(t, me, parts, 0)
		text := strings.Repeat("x", 480)
		var keys []string
		for i := range maxSet {
			keys = append(keys, fmt.Sprintf("%s%04d", text, i))
		}
		var asked []api.Post
		for i := range maxPending {
			var posts []api.Post
			var a api.Answer
			if i%2 == 0 {
				posts, a = c.Write(pairsOf(keys...))
			} else {
				posts, a = c.Read(keys)
			}
			if a.Result != 0 {
				t.Fatalf("P20.1: a great request is %d", a.Result)
			}
			asked = append(asked, posts...)
		}
		results := map[int]int{}
		for i := 0; i < len(asked); i++ {
			if i%500 == 0 {
				c.Tick()
			}
			for _, m := range answersTo(asked[i], nothing) {
				posts, a := c.Receive(asked[i].Part, m)
				asked = append(asked, posts...)
				results[a.Result]++
			}
		}
		if results[rsOK] != maxPending {
			t.Errorf("P20.5: great requests end %v", results)
		}
	}
}

// Requests that are far too long are refused in the time that there is: keys that are alike to their ends.
func TestGreatRefused(t *testing.T) {
	text := strings.Repeat("x", maxText-4)
	var keys []string
	for i := range maxSet {
		keys = append(keys, fmt.Sprintf("%s%04d", text, i))
	}
	pairs := pairsOf(keys...)
	for i := range pairs {
		pairs[i].Value = text
	}
	for _, parts := range []int{1, maxParts} {
		c := fresh(t, me, parts, 0)
		good := latestSize(keys, parts) <= maxAsk
		for i := range 2 {
			posts, a := c.Write(pairs)
			begins(t, "a write of the longest", false, 2*i+1, posts, a)
			posts, a = c.Read(keys)
			begins(t, "a read of the longest", good, 2*i+2, posts, a)
		}
	}
}
