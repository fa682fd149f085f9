package cluster_test

import (
	"fmt"
	"slices"
	"testing"

	"rampart/api"
	"rampart/cluster"
)

// watched is a cluster whose every step is looked at by the promises, apart from any model.
type watched struct {
	t      *testing.T
	c      *cluster.Cluster
	config api.Config
	did    []api.Step
	now    told
	given  int     // the number that a frame was given last
	ticks  []int   // how many ticks each partition did
	at     [][]int // of each event, the ticks when it came
	reqs   []int   // how many questions each client numbered
	asked  map[asked]question
	had    []partTold // of each partition, what it told when it was last up
	saw    map[string]int
}

// asked names a question of a client.
type asked struct {
	client int
	req    uint64
}

// question is what was asked of a partition, and for which request.
type question struct {
	txn, part int
	message   api.Message
}

// watch begins to watch a new cluster; saw counts what was seen, so that a test can tell whether it saw enough.
func watch(t *testing.T, config api.Config, saw map[string]int) *watched {
	t.Helper()
	c := made(t, config)
	return &watched{
		t: t, c: c, config: config, now: toldBy(c, config), ticks: make([]int, config.Parts), reqs: make([]int, config.Clients),
		asked: map[asked]question{}, had: make([]partTold, config.Parts), saw: saw,
	}
}

func (w *watched) fail(form string, a ...any) {
	w.t.Helper()
	w.t.Fatalf("%s\n%+v, behind %s", fmt.Sprintf(form, a...), w.config, script(w.did))
}

// do does a step.
func (w *watched) do(s api.Step) bool {
	w.t.Helper()
	was := w.now
	happened := w.c.Do(s)
	w.did = append(w.did, s)
	w.now = toldBy(w.c, w.config)
	if !happened {
		if diff := w.now.unlike(was); diff != "" {
			w.fail("P22.6: a step that tells false: %s", diff)
		}
		return false
	}
	frames, events := w.isNew(s, was)
	w.partsMove(s, was)
	w.liveMoves(s, was)
	w.framesMay(s, was, frames)
	w.eventsMay(s, was, events, frames)
	w.counts(s, was, frames)
	for range events {
		w.at = append(w.at, slices.Clone(w.ticks))
	}
	return true
}

func (w *watched) run(steps ...api.Step) {
	w.t.Helper()
	for _, s := range steps {
		w.do(s)
	}
}

// P22.6.

// isNew is what a step put behind the flight and the history; all else of them must be as it was.
func (w *watched) isNew(s api.Step, was told) ([]cluster.Frame, []api.Event) {
	w.t.Helper()
	stay := was.flight
	if s.Kind == stDeliver || s.Kind == stLose {
		stay = slices.Delete(slices.Clone(stay), s.N, s.N+1)
	}
	is := w.now.flight
	if len(is) < len(stay) || !sameFrames(is[:len(stay)], stay) {
		w.fail("P22.6: the flight was %s, is %s", short(was.flight), short(is))
	}
	for _, f := range is[len(stay):] {
		w.given++
		if f.Number != w.given {
			w.fail("P22.6: a new frame has the number %d, want %d", f.Number, w.given)
		}
	}
	h := w.now.history
	if len(h) < len(was.history) || !sameEvents(h[:len(was.history)], was.history) {
		w.fail("P22.6: the history was %s, is %s", short(was.history), short(h))
	}
	return is[len(stay):], h[len(was.history):]
}

// moved is which partition a step may move; -1: none.
func moved(s api.Step, was told) int {
	switch s.Kind {
	case stDeliver:
		return max(was.flight[s.N].To, -1)
	case stPart, stCrash, stRestart:
		return s.Node
	}
	return -1
}

// partsMove looks at what the partitions tell, from -1 on.
func (w *watched) partsMove(s api.Step, was told) {
	w.t.Helper()
	for i, is := range w.now.parts {
		n, old := i-1, was.parts[i]
		if n != moved(s, was) || n < 0 {
			if !samePartTold(is, old) {
				w.fail("P22.6: the partition %d was %s, is %s", n, short(old), short(is))
			}
			continue
		}
		if !is.up && (is.now != 0 || len(is.kept)+len(is.lasts) > 0) {
			w.fail("P22.1: of the partition %d, which is down, is told %s", n, short(is))
		}
		if old.up {
			w.had[n] = old
		}
		switch s.Kind {
		case stPart:
			w.ticks[n]++
			if !old.up || is.up && (is.now != old.now+1 || !slices.Equal(is.lasts, old.lasts)) {
				w.fail("P22.1: a tick of %s brings %s", short(old), short(is))
			}
		case stCrash:
			if !old.up || is.up {
				w.fail("P22.1: a crash of %s brings %s", short(old), short(is))
			}
		case stRestart:
			if old.up || !is.up || is.now != 0 {
				w.fail("P22.1: a restart of %s brings %s", short(old), short(is))
			}
			w.isBack(n, is)
		case stDeliver:
			if !old.up && is.up || is.up && is.now != old.now {
				w.fail("P22.6: a delivery to %s brings %s", short(old), short(is))
			}
		}
	}
}

// isBack looks at a partition behind a restart: what was not old is there, and each last, or one above it.
func (w *watched) isBack(n int, is partTold) {
	w.t.Helper()
	for _, k := range w.had[n].kept {
		if k.Stamp == -1 && !slices.ContainsFunc(is.kept, func(o api.Kept) bool { return sameVersion(o.Version, k.Version) }) {
			w.fail("P8: the partition %d comes back without %s", n, short(k))
		}
	}
	for _, l := range w.had[n].lasts {
		if !slices.ContainsFunc(is.lasts, func(o api.Last) bool { return o.Key == l.Key && o.ID >= l.ID }) {
			w.fail("P8: the partition %d comes back without the last %v", n, l)
		}
	}
}

func (w *watched) liveMoves(s api.Step, was told) {
	w.t.Helper()
	want := slices.Clone(was.live)
	if s.Kind == stStop {
		if !want[s.Node+1] {
			w.fail("P22.1: a client was stopped twice")
		}
		want[s.Node+1] = false
	}
	if !slices.Equal(w.now.live, want) {
		w.fail("P22.6: live (from -1 on) were %v, are %v", was.live, w.now.live)
	}
}

// P22.4.

// framesMay looks at which frames a step may send.
func (w *watched) framesMay(s api.Step, was told, frames []cluster.Frame) {
	w.t.Helper()
	switch s.Kind {
	case stTwin:
		if len(frames) != 1 {
			w.fail("P22.6: a twin sends %d frames", len(frames))
		}
		like := frames[0]
		like.Number = was.flight[s.N].Number
		if !sameFrame(like, was.flight[s.N]) {
			w.fail("P22.6: the twin of %s is %s", short(was.flight[s.N]), short(like))
		}
		return
	case stWrite, stRead, stTick:
		w.areOf(s.Node, frames)
	case stDeliver:
		f := was.flight[s.N]
		if f.To >= 0 {
			w.goBack(f, frames)
			return
		}
		w.areOf(-1-f.To, frames)
	default:
		if len(frames) > 0 {
			w.fail("P22.6: this step sends %s", short(frames))
		}
		return
	}
	for _, f := range frames {
		w.asks(s, was, f)
	}
}

// areOf looks at frames of a client.
func (w *watched) areOf(client int, frames []cluster.Frame) {
	w.t.Helper()
	for _, f := range frames {
		if f.From != -1-client || f.To < 0 || f.To >= w.config.Parts || f.Message.Client != client {
			w.fail("P22.1: the client %d sends %s", client, short(f))
		}
	}
}

// goBack looks at the frames by which a partition answers: each names the question's client and number.
func (w *watched) goBack(to cluster.Frame, frames []cluster.Frame) {
	w.t.Helper()
	for _, f := range frames {
		if f.From != to.To || f.To != to.From || f.Message.Client != to.Message.Client || f.Message.Req != to.Message.Req {
			w.fail("P22.1: %s is answered by %s", short(to), short(f))
		}
	}
}

// asks looks at a question of a client: at a tick it is one that was asked ahead; else one of a request.
func (w *watched) asks(s api.Step, was told, f cluster.Frame) {
	w.t.Helper()
	client, name := f.Message.Client, asked{f.Message.Client, f.Message.Req}
	known, again := w.asked[name]
	if s.Kind == stTick {
		if !again || known.part != f.To || !sameMessage(known.message, f.Message) {
			w.fail("P22.4: a tick sends %s, asked was %s", short(f), short(known))
		}
		if len(answers(was.history, client, known.txn)) > 0 {
			w.fail("P22.5: a tick sends %s for a request that is answered", short(f))
		}
		return
	}
	w.reqs[client]++
	if again || f.Message.Req != uint64(w.reqs[client]) {
		w.fail("P22.4: the question number %d of the client is %s", w.reqs[client], short(f))
	}
	q := question{part: f.To, message: copyMessage(f.Message)}
	if s.Kind == stDeliver {
		q.txn = w.asked[asked{client, was.flight[s.N].Message.Req}].txn
		w.mayAsk(q, client, msCommit, msByID)
	} else {
		q.txn = w.now.history[len(was.history)].Txn
		w.mayAsk(q, client, msPrepare, msLatest)
	}
	w.asked[name] = q
}

// mayAsk looks at a new question, which is of the one kind, if it is a write's, of the other, if it is a read's.
func (w *watched) mayAsk(q question, client, ofWrite, ofRead int) {
	w.t.Helper()
	i := slices.IndexFunc(w.now.history, func(e api.Event) bool { return e.Kind != evAnswer && e.Client == client && e.Txn == q.txn })
	if i < 0 {
		w.fail("P22.4: %s is no request's", short(q))
	}
	e, kind := w.now.history[i], ofWrite
	if e.Kind == evRead {
		kind = ofRead
	}
	if q.message.Kind != kind {
		w.fail("P22.4: %s is asked for %s", short(q), short(e))
	}
	for name, o := range w.asked {
		if name.client == client && o.txn == q.txn && o.part == q.part && o.message.Kind == kind {
			w.fail("P22.4: the request %d asks the partition %d twice: %s, %s", q.txn, q.part, short(o), short(q))
		}
	}
	if own := w.own(e, q.part); len(own) == 0 || !w.isFor(q.message, e, own) {
		w.fail("P22.4: for %s, whose keys there are %q, is asked %s", short(e), own, short(q))
	}
}

// own are the keys of a request that a partition has, in their order.
func (w *watched) own(e api.Event, part int) []string {
	return slices.DeleteFunc(keysOf(e), func(key string) bool { return placeOf(key, w.config.Parts) != part })
}

// isFor tells whether a question asks for the keys of a request that its partition has, or, by name, for some of them.
func (w *watched) isFor(m api.Message, e api.Event, own []string) bool {
	switch m.Kind {
	case msLatest:
		return slices.Equal(m.Keys, own)
	case msByID:
		return !slices.ContainsFunc(m.Wants, func(want api.Want) bool { return !slices.Contains(own, want.Key) })
	case msPrepare:
		var pairs []api.Pair
		for _, p := range e.Pairs {
			if slices.Contains(own, p.Key) {
				pairs = append(pairs, p)
			}
		}
		slices.SortFunc(pairs, func(a, b api.Pair) int { return compare(a.Key, b.Key) })
		all := keysOf(e)
		slices.Sort(all)
		return m.ID == e.ID && slices.Equal(m.Pairs, pairs) && slices.Equal(m.Keys, all)
	}
	return m.ID == e.ID
}

func compare(a, b string) int {
	switch {
	case a < b:
		return -1
	case a > b:
		return 1
	}
	return 0
}

// keysOf are the keys of a request, in its order.
func keysOf(e api.Event) []string {
	l := slices.Clone(e.Keys)
	for _, p := range e.Pairs {
		l = append(l, p.Key)
	}
	return l
}

// P22.5.

// eventsMay looks at which events a step may bring.
func (w *watched) eventsMay(s api.Step, was told, events []api.Event, frames []cluster.Frame) {
	w.t.Helper()
	for _, e := range events {
		if e.Client < 0 || e.Client >= w.config.Clients {
			w.fail("P22.5: an event is %s", short(e))
		}
	}
	switch s.Kind {
	case stWrite, stRead:
		w.requested(s, was, events, frames)
	case stGive:
		if len(events) != 1 || events[0].Client != s.Node || events[0].Txn != s.N || events[0].Kind != evAnswer {
			w.fail("P22.5: giving up brings %s", short(events))
		}
		w.answers(was, events[0])
		if want := w.givenUp(s.Node, s.N); events[0].Answer.Result != want {
			w.fail("P22.5: giving up brings %s, want the result %d", short(events), want)
		}
	case stDeliver:
		f := was.flight[s.N]
		if len(events) == 0 {
			return
		}
		if len(events) > 1 || events[0].Kind != evAnswer || f.To != -1-events[0].Client {
			w.fail("P22.5: the delivery of %s brings %s", short(f), short(events))
		}
		w.answers(was, events[0])
	default:
		if len(events) > 0 {
			w.fail("P22.6: this step brings %s", short(events))
		}
	}
}

// givenUp is how a request ends that is given up now: once a commit was asked, nobody knows.
func (w *watched) givenUp(client, txn int) int {
	for name, q := range w.asked {
		if name.client == client && q.txn == txn && q.message.Kind == msCommit {
			return rsUnknown
		}
	}
	return rsAborted
}

// requested looks at a request's event, and at its answer, if it is refused.
func (w *watched) requested(s api.Step, was told, events []api.Event, frames []cluster.Frame) {
	w.t.Helper()
	txn := 1
	for _, e := range was.history {
		if e.Client == s.Node && e.Kind != evAnswer {
			txn++
		}
	}
	if len(events) == 0 {
		w.fail("P22.5: a request is not in the history")
	}
	want := api.Event{Kind: evRead, Client: s.Node, Txn: txn, Keys: s.Keys}
	if s.Kind == stWrite {
		want = api.Event{Kind: evWrite, Client: s.Node, Txn: txn, ID: events[0].ID, Pairs: s.Pairs}
	}
	if !sameEvent(events[0], want) {
		w.fail("P22.5: the request is %s, want %s", short(events[0]), short(want))
	}
	if len(events) == 1 {
		parts := map[int]int{}
		for _, key := range keysOf(want) {
			parts[placeOf(key, w.config.Parts)]++
		}
		if len(frames) != len(parts) || s.Kind == stWrite && want.ID%perSeq != api.ID(s.Node) {
			w.fail("P22.5: for %s go %s", short(want), short(frames))
		}
		return
	}
	a := events[1].Answer
	refused := a.Result == rsInvalid || a.Result == rsExhausted && s.Kind == stWrite
	if len(events) > 2 || !refused || !sameEvent(events[1], answered(s.Node, api.Answer{Txn: txn, Result: a.Result})) || len(frames) > 0 || want.ID != 0 {
		w.fail("P22.5: a refused request brings %s, and sends %s", short(events), short(frames))
	}
}

// answers looks at an answer that comes behind its request.
func (w *watched) answers(was told, e api.Event) {
	w.t.Helper()
	i := slices.IndexFunc(was.history, func(r api.Event) bool { return r.Kind != evAnswer && r.Client == e.Client && r.Txn == e.Txn })
	if i < 0 || len(answers(was.history, e.Client, e.Txn)) > 0 {
		w.fail("P22.5: there is no request, or another answer, ahead of %s", short(e))
	}
	r, a := was.history[i], e.Answer
	want := api.Answer{Txn: e.Txn, Result: a.Result, ID: r.ID}
	may := []int{rsOK, rsAborted, rsUnknown}
	if r.Kind == evRead {
		may = []int{rsOK, rsStale, rsAborted}
		if a.Result == rsOK {
			want.Versions = a.Versions
		}
	}
	if !slices.Contains(may, a.Result) || !sameEvent(e, answered(e.Client, want)) {
		w.fail("P22.5: %s is answered by %s", short(r), short(e))
	}
}

// counts counts what the promises are about.
func (w *watched) counts(s api.Step, was told, frames []cluster.Frame) {
	for _, e := range w.now.history[len(was.history):] {
		if e.Kind == evAnswer {
			w.saw[fmt.Sprint("result ", e.Answer.Result)]++
		}
	}
	for _, f := range frames {
		w.saw[fmt.Sprint("message ", f.Message.Kind)]++
	}
	if n := moved(s, was); n >= 0 && s.Kind != stCrash && was.parts[n+1].up && !w.now.parts[n+1].up {
		w.saw[fmt.Sprint("power off in a step of the kind ", s.Kind)]++
	}
}

// sawEnough looks at how often each thing was seen.
func sawEnough(t *testing.T, saw map[string]int, least int, things ...string) {
	t.Helper()
	for _, thing := range things {
		if saw[thing] < least {
			t.Errorf("the test saw %q %d times, want %d at least: of %v", thing, saw[thing], least, saw)
		}
	}
}

// P22.2.

// judge looks at the whole history: P2, P3, P4 and P6.
func (w *watched) judge() {
	w.t.Helper()
	h := w.now.history
	for i, e := range h {
		if e.Kind != evAnswer {
			continue
		}
		j := slices.IndexFunc(h, func(r api.Event) bool { return r.Kind != evAnswer && r.Client == e.Client && r.Txn == e.Txn })
		switch {
		case h[j].Kind == evRead && e.Answer.Result == rsOK:
			w.whole(i, j)
			w.seen(i, j)
		case e.Answer.Result == rsStale:
			w.stale(i, j)
		}
	}
}

// wrote is the write of an ID that was invoked ahead of an event.
func (w *watched) wrote(id api.ID, ahead int) api.Event {
	w.t.Helper()
	h := w.now.history[:ahead]
	i := slices.IndexFunc(h, func(e api.Event) bool { return e.Kind == evWrite && e.ID == id })
	if i < 0 {
		w.fail("P2: the write %d, which is told, was not invoked", id)
	}
	for _, a := range answers(w.now.history, h[i].Client, h[i].Txn) {
		if a.Result != rsOK && a.Result != rsUnknown {
			w.fail("P4: the write %d, which is told, is answered %d", id, a.Result)
		}
	}
	return h[i]
}

// whole looks at the read invoked at j, answered at i, by itself: P2 and P4.
func (w *watched) whole(i, j int) {
	w.t.Helper()
	l := w.now.history[i].Answer.Versions
	if len(l) != len(w.now.history[j].Keys) {
		w.fail("P22.2: a read of %q tells %s", w.now.history[j].Keys, short(l))
	}
	for k, v := range l {
		if v.Key != w.now.history[j].Keys[k] {
			w.fail("P22.2: a read of %q tells %s", w.now.history[j].Keys, short(l))
		}
		if v.ID == 0 {
			if v.Value != "" || len(v.Keys) > 0 {
				w.fail("P2: bottom is told as %s", short(v))
			}
			continue
		}
		e := w.wrote(v.ID, i)
		all := keysOf(e)
		slices.Sort(all)
		if !slices.Contains(e.Pairs, pair(v.Key, v.Value)) || !slices.Equal(v.Keys, all) {
			w.fail("P2: of %s is told %s", short(e), short(v))
		}
		for _, o := range l {
			if o.ID < v.ID && slices.Contains(all, o.Key) {
				w.fail("P2: torn apart: %s", short(l))
			}
		}
	}
}

// seen looks at what was done ahead of the read: P3.
func (w *watched) seen(i, j int) {
	w.t.Helper()
	for _, a := range w.now.history[:j] {
		if a.Kind != evAnswer || a.Answer.Result != rsOK || a.Answer.ID == 0 {
			continue
		}
		e := w.wrote(a.Answer.ID, j)
		for _, v := range w.now.history[i].Answer.Versions {
			if v.ID < e.ID && slices.Contains(keysOf(e), v.Key) {
				w.fail("P3: the write %d was done, and then is told %s", e.ID, short(v))
			}
		}
	}
}

// stale looks for the reason why a read is stale: P6.
func (w *watched) stale(i, j int) {
	w.t.Helper()
	for _, key := range w.now.history[j].Keys {
		p := placeOf(key, w.config.Parts)
		if int64(w.at[i][p]-w.at[j][p]) >= w.config.Retain {
			return
		}
	}
	w.fail("P6: the read %s is stale, the ticks were %v, are %v", short(w.now.history[j]), w.at[j], w.at[i])
}

// P22.3.

// pending are the requests of a client that have no answer.
func (w *watched) pending(client int) []int {
	var out []int
	for _, e := range w.now.history {
		if e.Client == client && e.Kind != evAnswer && len(answers(w.now.history, client, e.Txn)) == 0 {
			out = append(out, e.Txn)
		}
	}
	return out
}

// drain is P5's; behind it nothing of a live client is pending.
func (w *watched) drain() {
	w.t.Helper()
	before := w.now.history
	for p := range w.config.Parts {
		w.must(arm(p, -1, 0))
	}
	for p := range w.config.Parts {
		w.must(full(p, 0))
	}
	for p := range w.config.Parts {
		if !w.c.Up(p) {
			w.must(restart(p))
		}
	}
	for n := range w.config.Clients {
		if w.c.Live(n) {
			w.must(tick(n))
		}
	}
	for range 4 {
		for range len(w.now.flight) {
			w.must(deliver(0))
		}
	}
	for n := range w.config.Clients {
		if w.c.Live(n) && len(w.pending(n)) > 0 {
			w.fail("P22.3: behind a drain the requests %v of the client %d are pending", w.pending(n), n)
		}
	}
	for _, e := range w.now.history[len(before):] {
		isWrite := e.Answer.ID != 0
		if e.Kind != evAnswer || e.Answer.Result != rsOK && (isWrite || e.Answer.Result != rsStale) {
			w.fail("P22.3: in a drain came %s", short(e))
		}
	}
}

// must does a step that happens.
func (w *watched) must(s api.Step) {
	w.t.Helper()
	if !w.do(s) {
		w.fail("P22.3: the step %s did not happen", short(s))
	}
}

// view is what a step of chance hangs on.
func (w *watched) view() view {
	v := view{config: w.config, frames: len(w.now.flight)}
	for n := range w.config.Clients {
		v.pending = append(v.pending, w.pending(n))
	}
	for n := range w.config.Parts {
		if !w.now.parts[n+1].up {
			v.down = append(v.down, n)
		}
	}
	return v
}
