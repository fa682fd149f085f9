package cluster_test

import (
	"fmt"
	"slices"
	"testing"

	"rampart/api"
	"rampart/client"
	"rampart/cluster"
	"rampart/disk"
	"rampart/part"
)

// model is the chapter's cluster, in one goroutine: clients, partitions and disks as built, all else by the chapter's words.
type model struct {
	config  api.Config
	closed  bool
	clients []*client.Client
	stopped []bool
	disks   []*disk.Disk
	parts   []*part.Part // nil: down
	given   int          // the number that was given last
	flight  []cluster.Frame
	history []api.Event
}

func newModel(config api.Config) *model {
	x := &model{config: config, stopped: make([]bool, config.Clients)}
	for n := range config.Clients {
		one, _ := client.New(n, config.Parts, config.First)
		x.clients = append(x.clients, one)
	}
	for n := range config.Parts {
		d := disk.New()
		p, _ := part.Open(d, n, config)
		x.disks = append(x.disks, d)
		x.parts = append(x.parts, p)
	}
	return x
}

func (x *model) live(n int) bool { return n >= 0 && n < x.config.Clients && !x.stopped[n] }

func (x *model) isPart(n int) bool { return n >= 0 && n < x.config.Parts }

func (x *model) up(n int) bool { return x.isPart(n) && x.parts[n] != nil }

func (x *model) place(n int) bool { return n >= 0 && n < len(x.flight) }

func (x *model) send(from, to int, m api.Message) {
	x.given++
	x.flight = append(x.flight, cluster.Frame{Number: x.given, From: from, To: to, Message: copyMessage(m)})
}

// sends sends a client's posts.
func (x *model) sends(n int, posts []api.Post) {
	for _, p := range posts {
		x.send(-n-1, p.Part, p.Message)
	}
}

func (x *model) event(e api.Event) { x.history = append(x.history, copyEvents([]api.Event{e})...) }

func (x *model) answer(n int, a api.Answer) {
	if a.Result > 0 {
		x.event(answered(n, a))
	}
}

func (x *model) do(s api.Step) bool {
	if x.closed {
		return false
	}
	switch s.Kind {
	case stWrite, stRead, stTick, stStop, stGive:
		return x.live(s.Node) && x.doClient(s)
	case stDeliver, stLose, stTwin:
		return x.place(s.N) && x.doFrame(s)
	case stPart, stCrash:
		return x.up(s.Node) && x.doUp(s)
	case stRestart:
		return x.isPart(s.Node) && !x.up(s.Node) && x.restart(s.Node)
	case stFull, stArm:
		return x.isPart(s.Node) && x.doDisk(s)
	}
	return false
}

func (x *model) doClient(s api.Step) bool {
	n, one := s.Node, x.clients[s.Node]
	switch s.Kind {
	case stWrite:
		posts, a := one.Write(s.Pairs)
		x.event(api.Event{Kind: evWrite, Client: n, Txn: a.Txn, ID: a.ID, Pairs: s.Pairs})
		x.answer(n, a)
		x.sends(n, posts)
	case stRead:
		posts, a := one.Read(s.Keys)
		x.event(api.Event{Kind: evRead, Client: n, Txn: a.Txn, Keys: s.Keys})
		x.answer(n, a)
		x.sends(n, posts)
	case stTick:
		x.sends(n, one.Tick())
	case stStop:
		one.Stop()
		x.stopped[n] = true
	case stGive:
		a, err := one.Give(s.N)
		if err != ok {
			return false
		}
		x.answer(n, a)
	}
	return true
}

func (x *model) doFrame(s api.Step) bool {
	f := x.flight[s.N]
	if s.Kind == stTwin {
		x.send(f.From, f.To, f.Message)
		return true
	}
	x.flight = slices.Concat(x.flight[:s.N], x.flight[s.N+1:])
	if s.Kind == stLose {
		return true
	}
	if x.up(f.To) {
		back, err := x.parts[f.To].Handle(f.Message)
		for _, m := range back {
			x.send(f.To, -1-m.Client, m)
		}
		if err == api.ErrDown {
			x.parts[f.To] = nil
		}
	}
	if n := -f.To - 1; x.live(n) {
		posts, a := x.clients[n].Receive(f.From, f.Message)
		x.sends(n, posts)
		x.answer(n, a)
	}
	return true
}

func (x *model) doUp(s api.Step) bool {
	keep := s.N
	if s.Kind == stPart {
		err := x.parts[s.Node].Tick()
		if err == errArg {
			return false
		}
		if err == ok {
			return true
		}
		keep = 0
	}
	x.disks[s.Node].Crash(keep)
	x.parts[s.Node] = nil
	return true
}

func (x *model) restart(n int) bool {
	x.disks[n].Up()
	p, err := part.Open(x.disks[n], n, x.config)
	if err != ok {
		x.disks[n].Crash(0)
		return true
	}
	x.parts[n] = p
	return true
}

func (x *model) doDisk(s api.Step) bool {
	if s.Kind == stFull {
		x.disks[s.Node].Full(s.N)
	} else {
		x.disks[s.Node].Arm(s.N, s.K)
	}
	return true
}

func (x *model) told() told {
	t := told{history: x.history, flight: x.flight}
	for n := -1; n <= x.config.Parts; n++ {
		p := partTold{}
		if x.up(n) {
			p = partTold{true, x.parts[n].Now(), x.parts[n].Kept(), x.parts[n].Lasts()}
		}
		t.parts = append(t.parts, p)
	}
	for n := -1; n <= x.config.Clients; n++ {
		t.live = append(t.live, x.live(n))
	}
	return t
}

// pending are the requests of a live client that have no answer.
func (x *model) pending(n int) []int {
	if !x.live(n) {
		return nil
	}
	return x.clients[n].Pending()
}

// twins are a cluster and its model, which do the same.
type twins struct {
	c    *cluster.Cluster
	x    *model
	did  []api.Step
	seen told // what both tell now
}

func newTwins(t *testing.T, config api.Config) *twins {
	t.Helper()
	w := &twins{c: made(t, config), x: newModel(config)}
	w.looks(t)
	return w
}

// looks holds all that the cluster tells against the model; what was told is spoilt: a cluster that shares it would tell.
func (w *twins) looks(t *testing.T) {
	t.Helper()
	is := toldBy(w.c, w.x.config)
	w.seen = w.x.told()
	if diff := is.unlike(w.seen); diff != "" {
		t.Fatalf("P22.1: %+v, behind %s: %s", w.x.config, script(w.did), diff)
	}
	is.spoil()
}

// do does a step to both; what is handed in is spoilt at once.
func (w *twins) do(t *testing.T, s api.Step) bool {
	t.Helper()
	w.did = append(w.did, s)
	want := w.x.do(s)
	given := roomyStep(s)
	got := w.c.Do(given)
	if !isRoomy(given, s) {
		t.Fatalf("P22.7: behind %s: Do changed what was handed in: %s", script(w.did), short(given))
	}
	spoilStep(given)
	if got != want {
		t.Fatalf("P22.1: %+v, behind %s: Do tells %t, want %t", w.x.config, script(w.did), got, want)
	}
	w.looks(t)
	return got
}

func (w *twins) run(t *testing.T, steps ...api.Step) {
	t.Helper()
	for _, s := range steps {
		w.do(t, s)
	}
}

// settle delivers until nothing is under way.
func (w *twins) settle(t *testing.T) {
	t.Helper()
	for len(w.x.flight) > 0 {
		w.do(t, deliver(0))
	}
}

// script is a row of steps for a message, the last ones of a long row.
func script(steps []api.Step) string {
	const most = 40
	words := []string{"", "write", "read", "tick", "stop", "give", "deliver", "lose", "twin", "part", "crash", "restart", "full", "arm"}
	out := ""
	if len(steps) > most {
		out = fmt.Sprint(len(steps)-most, " steps, ")
		steps = steps[len(steps)-most:]
	}
	for _, s := range steps {
		word := fmt.Sprint("kind ", s.Kind)
		if s.Kind > 0 && s.Kind < len(words) {
			word = words[s.Kind]
		}
		out += fmt.Sprintf("%s{%d %d %d", word, s.Node, s.N, s.K)
		if len(s.Pairs)+len(s.Keys) > 0 {
			out += fmt.Sprintf(" %.60q %.60q", s.Pairs, s.Keys)
		}
		out += "} "
	}
	return out
}

// Memory that is handed in, and written over.

const mark = "!spare"

// roomy is a copy of a list with spare room, marked.
func roomy[T any](l []T, x T) []T {
	out := make([]T, len(l)+3)
	copy(out, l)
	for i := len(l); i < len(out); i++ {
		out[i] = x
	}
	return out[:len(l)]
}

func roomyStep(s api.Step) api.Step {
	s.Pairs, s.Keys = roomy(s.Pairs, pair(mark, mark)), roomy(s.Keys, mark)
	return s
}

// isRoomy tells whether a step is as roomyStep made it, in its spare room too.
func isRoomy(s, of api.Step) bool {
	want := roomyStep(of)
	return slices.Equal(s.Pairs[:cap(s.Pairs)], want.Pairs[:cap(want.Pairs)]) && slices.Equal(s.Keys[:cap(s.Keys)], want.Keys[:cap(want.Keys)])
}

// fill writes a list and its spare room full, and lengthens it.
func fill[T any](l []T, x T) {
	l = l[:cap(l)]
	for i := range l {
		l[i] = x
	}
	_ = append(l, x, x, x)
}

func spoilStep(s api.Step) {
	fill(s.Pairs, pair("spoilt", "spoilt"))
	fill(s.Keys, "spoilt")
}

func spoilVersions(l []api.Version) {
	for _, v := range l {
		fill(v.Keys, "spoilt")
	}
	fill(l, api.Version{Key: "spoilt", ID: 7})
}

func spoilMessage(m api.Message) {
	fill(m.Pairs, pair("spoilt", "spoilt"))
	fill(m.Keys, "spoilt")
	fill(m.Wants, api.Want{Key: "spoilt", ID: 7})
	spoilVersions(m.Versions)
}

func (t told) spoil() {
	for _, e := range t.history {
		fill(e.Pairs, pair("spoilt", "spoilt"))
		fill(e.Keys, "spoilt")
		spoilVersions(e.Answer.Versions)
	}
	fill(t.history, api.Event{Kind: 7})
	for _, f := range t.flight {
		spoilMessage(f.Message)
	}
	fill(t.flight, cluster.Frame{Number: -7})
	for _, p := range t.parts {
		for _, k := range p.kept {
			fill(k.Version.Keys, "spoilt")
		}
		fill(p.kept, api.Kept{Stamp: 7})
		fill(p.lasts, api.Last{Key: "spoilt", ID: 7})
	}
}
