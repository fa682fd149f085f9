package net

import (
	"bytes"
	"fmt"
	"math"
	"math/rand"
	"runtime"
	"slices"
	"strings"
	"testing"

	"rampart/api"
)

// The chapter's numbers, not api's.
const (
	ok      = api.Errno(0)
	errArg  = api.Errno(1)
	errNode = api.Errno(210)

	maxParts   = 64
	maxClients = 16
)

// seen is a frame as it was told.
type seen struct {
	number, from, to int
	bytes            string
}

func see(f Frame) seen { return seen{f.Number, f.From, f.To, string(f.Bytes)} }

func seeAll(l []Frame) []seen {
	var out []seen
	for _, f := range l {
		out = append(out, see(f))
	}
	return out
}

// Kinds of calls in a script.
const (
	doSend = iota
	doDeliver
	doLose
	doTwin
	doFlight
	doLen
)

// call is one call of a net; fields that its kind doesn't have are zero.
type call struct {
	kind, from, to, place int
	b                     string
}

func (c call) String() string {
	if c.kind == doSend {
		return fmt.Sprintf("Send(%d, %d, %q)", c.from, c.to, c.b)
	}
	word := []string{"Send", "Deliver", "Lose", "Twin", "Flight", "Len"}[c.kind]
	return fmt.Sprintf("%s(%d)", word, c.place)
}

func send(from, to int, b string) call { return call{kind: doSend, from: from, to: to, b: b} }

func deliver(place int) call { return call{kind: doDeliver, place: place} }

func lose(place int) call { return call{kind: doLose, place: place} }

func twin(place int) call { return call{kind: doTwin, place: place} }

// answer is what a call told, all of it.
type answer struct {
	n      int
	err    api.Errno
	frame  seen
	flight []seen
}

func same(a, b answer) bool {
	return a.n == b.n && a.err == b.err && a.frame == b.frame && slices.Equal(a.flight, b.flight)
}

// mark stands in the spare room of what is handed in.
const mark = 0xA5

// roomy is bytes with spare room, marked.
func roomy(s string) []byte {
	b := bytes.Repeat([]byte{mark}, len(s)+9)
	copy(b, s)
	return b[:len(s)]
}

func isRoomy(b []byte, s string) bool {
	all := b[:cap(b)]
	return string(all[:len(s)]) == s && bytes.Count(all[len(s):], []byte{mark}) == len(all)-len(s)
}

// fill writes a list and its spare room full, and lengthens it.
func fill[T any](l []T, v T) {
	l = l[:cap(l)]
	for i := range l {
		l[i] = v
	}
	_ = append(l, v, v, v)
}

func spoilFrame(f Frame) { fill(f.Bytes, '?') }

func spoilFlight(l []Frame) {
	for _, f := range l {
		spoilFrame(f)
	}
	fill(l, Frame{-7, -7, -7, []byte("spoilt")})
}

// on does a call. What it hands in and what it is answered is spoilt at once: a net that shares it would tell.
func on(t *testing.T, n *Net, c call) answer {
	t.Helper()
	a := answer{}
	switch c.kind {
	case doSend:
		b := roomy(c.b)
		a.n, a.err = n.Send(c.from, c.to, b)
		if !isRoomy(b, c.b) {
			t.Fatalf("memory: %v changed what was handed in: %q", c, b[:cap(b)])
		}
		fill(b, '!')
	case doDeliver:
		f, err := n.Deliver(c.place)
		a.frame, a.err = see(f), err
		spoilFrame(f)
	case doLose:
		a.err = n.Lose(c.place)
	case doTwin:
		a.n, a.err = n.Twin(c.place)
	case doFlight:
		l := n.Flight()
		a.flight = seeAll(l)
		spoilFlight(l)
	case doLen:
		a.n = n.Len()
	}
	return a
}

// model is the chapter's net: every frame that there ever was, by its number, and which of them are gone.
type model struct {
	parts, clients int
	frames         []seen
	gone           map[int]int
}

func newModel(parts, clients int) *model {
	return &model{parts: parts, clients: clients, gone: map[int]int{}}
}

func (m *model) flight() []seen {
	var out []seen
	for _, f := range m.frames {
		if m.gone[f.number] == 0 {
			out = append(out, f)
		}
	}
	return out
}

// side tells what a number is: 'p' a partition, 'c' a client, '-' no node.
func (m *model) side(node int) byte {
	for i := range m.parts {
		if node == i {
			return 'p'
		}
	}
	for i := range m.clients {
		if node == -1-i {
			return 'c'
		}
	}
	return '-'
}

func (m *model) enter(from, to int, b string) int {
	number := len(m.frames) + 1
	m.frames = append(m.frames, seen{number, from, to, b})
	return number
}

func (m *model) do(c call) answer {
	switch c.kind {
	case doSend:
		sides := string([]byte{m.side(c.from), m.side(c.to)})
		if sides != "pc" && sides != "cp" {
			return answer{err: errNode}
		}
		return answer{n: m.enter(c.from, c.to, c.b)}
	case doFlight:
		return answer{flight: m.flight()}
	case doLen:
		return answer{n: len(m.flight())}
	}
	for i, f := range m.flight() {
		if i != c.place {
			continue
		}
		if c.kind == doTwin {
			return answer{n: m.enter(f.from, f.to, f.bytes)}
		}
		m.gone[f.number]++
		if c.kind == doDeliver {
			return answer{frame: f}
		}
		return answer{}
	}
	return answer{err: errNode}
}

// short is a text that may be long, for a message.
func short(v any) string {
	s := fmt.Sprintf("%+v", v)
	if len(s) > 600 {
		return s[:600] + ".."
	}
	return s
}

// holdAgainst does a script to a net and to a model; behind each call both have the same flight.
func holdAgainst(t *testing.T, n *Net, m *model, script []call) {
	t.Helper()
	for i, c := range script {
		for _, d := range []call{c, {kind: doFlight}, {kind: doLen}} {
			if got, want := on(t, n, d), m.do(d); !same(got, want) {
				t.Fatalf("P21.1: %v: %v tells %s, want %s", script[:i+1], d, short(got), short(want))
			}
		}
	}
}

func fresh(t *testing.T, parts, clients int) *Net {
	t.Helper()
	n, err := New(parts, clients)
	if n == nil || err != ok {
		t.Fatalf("P21.1: New(%d, %d) = %v, %d", parts, clients, n, int(err))
	}
	return n
}

// flies looks at the whole flight.
func flies(t *testing.T, what string, n *Net, want ...seen) {
	t.Helper()
	if got := seeAll(n.Flight()); !slices.Equal(got, want) {
		t.Errorf("%s: Flight() = %s, want %s", what, short(got), short(want))
	}
	if n.Len() != len(want) {
		t.Errorf("%s: Len() = %d, want %d", what, n.Len(), len(want))
	}
}

// does looks at what a call answers.
func does(t *testing.T, what string, n *Net, c call, want answer) {
	t.Helper()
	if got := on(t, n, c); !same(got, want) {
		t.Errorf("%s: %v tells %s, want %s", what, c, short(got), short(want))
	}
}

// drained is what Deliver(0) tells until nothing is under way.
func drained(t *testing.T, n *Net) []seen {
	t.Helper()
	var out []seen
	for n.Len() > 0 {
		f, err := n.Deliver(0)
		if err != ok {
			t.Fatalf("P21.3: Deliver(0) with %d under way: %d", n.Len(), int(err))
		}
		out = append(out, see(f))
	}
	return out
}

func rises(l []seen) bool {
	for i, f := range l {
		if f.number < 1 || i > 0 && f.number <= l[i-1].number {
			return false
		}
	}
	return true
}

func TestExampleOne(t *testing.T) {
	n := fresh(t, 2, 1)
	flies(t, "example 1", n)
	does(t, "example 1", n, send(-1, 0, "a"), answer{n: 1})
	does(t, "example 1", n, send(-1, 1, "b"), answer{n: 2})
	does(t, "example 1", n, send(0, -1, "c"), answer{n: 3})
	does(t, "example 1", n, twin(0), answer{n: 4})
	flies(t, "example 1", n, seen{1, -1, 0, "a"}, seen{2, -1, 1, "b"}, seen{3, 0, -1, "c"}, seen{4, -1, 0, "a"})
	does(t, "example 1", n, deliver(1), answer{frame: seen{2, -1, 1, "b"}})
	does(t, "example 1", n, lose(1), answer{})
	flies(t, "example 1", n, seen{1, -1, 0, "a"}, seen{4, -1, 0, "a"})
	does(t, "example 1", n, deliver(1), answer{frame: seen{4, -1, 0, "a"}})
	flies(t, "example 1", n, seen{1, -1, 0, "a"})
}

func TestExampleTwo(t *testing.T) {
	n := fresh(t, 2, 1)
	does(t, "example 2", n, send(-1, 0, "a"), answer{n: 1})
	for _, c := range []call{send(0, 1, "x"), send(-1, -1, "x"), send(-1, 2, "x"), send(-2, 0, "x"), deliver(1), deliver(-1), lose(5), twin(1)} {
		does(t, "example 2", n, c, answer{err: errNode})
		flies(t, "example 2", n, seen{1, -1, 0, "a"})
	}
}

func TestExampleThree(t *testing.T) {
	for _, c := range [][2]int{{0, 1}, {65, 1}, {1, 0}, {1, 17}} {
		if n, err := New(c[0], c[1]); n != nil || err != errArg {
			t.Errorf("example 3: New(%d, %d) = %v, %d", c[0], c[1], n, int(err))
		}
	}
}

// hard are numbers that wrap round, or are inside once their high bits are cut off.
var hard = []int{math.MinInt, math.MinInt + 1, math.MinInt32, -256, -255, 255, 256, 257, 1 << 16, 1 << 32, 1<<32 + 1, 1<<32 - 1, -1<<32 - 1, math.MaxInt32, math.MaxInt - 1, math.MaxInt}

// Each of parts and clients from below its limits to above them, with each of the other.
func TestNew(t *testing.T) {
	var all []int
	for i := -3; i <= 70; i++ {
		all = append(all, i)
	}
	all = append(all, hard...)
	good := 0
	for _, parts := range all {
		for _, clients := range all {
			n, err := New(parts, clients)
			if 1 <= parts && parts <= maxParts && 1 <= clients && clients <= maxClients {
				good++
				if n == nil || err != ok || n.Len() != 0 || len(n.Flight()) != 0 {
					t.Errorf("P21.1: New(%d, %d) = %v, %d", parts, clients, n, int(err))
				}
			} else if n != nil || err != errArg {
				t.Errorf("P21.1: New(%d, %d) = %v, %d, want ErrArg", parts, clients, n, int(err))
			}
		}
	}
	if good != 1024 {
		t.Errorf("there are %d nets, want 1024", good)
	}
}

// sizes are a net's parts and clients at their limits, and some between.
var sizes = [][2]int{{1, 1}, {1, 16}, {64, 1}, {64, 16}, {2, 1}, {1, 2}, {3, 3}, {63, 15}, {16, 16}}

// From every number about the nodes to every other.
func TestNodes(t *testing.T) {
	var all []int
	for i := -19; i <= 67; i++ {
		all = append(all, i)
	}
	all = append(all, hard...)
	for _, s := range sizes {
		n, m := fresh(t, s[0], s[1]), newModel(s[0], s[1])
		good := 0
		for _, from := range all {
			for _, to := range all {
				c := send(from, to, "b")
				got, want := on(t, n, c), m.do(c)
				if !same(got, want) {
					t.Fatalf("P21.1: of %v: %v tells %s, want %s", s, c, short(got), short(want))
				}
				if got.err == ok {
					good++
				}
			}
		}
		if good != 2*s[0]*s[1] {
			t.Errorf("P21.1: of %v: %d sends went well, want %d", s, good, 2*s[0]*s[1])
		}
		flies(t, "P21.1: from all to all", n, m.flight()...)
	}
}

// The nodes just inside and just outside, by hand.
func TestNodesByHand(t *testing.T) {
	n := fresh(t, 64, 16)
	b := "b"
	for i, c := range []call{send(-1, 0, b), send(-16, 0, b), send(-1, 63, b), send(-16, 63, b), send(0, -1, b), send(63, -1, b), send(0, -16, b), send(63, -16, b)} {
		does(t, "inside", n, c, answer{n: i + 1})
	}
	for _, c := range []call{send(-17, 0, b), send(-1, 64, b), send(64, -1, b), send(0, -17, b), send(-17, 64, b), send(64, -17, b)} {
		does(t, "outside", n, c, answer{err: errNode})
	}
	for _, c := range []call{send(0, 0, b), send(0, 1, b), send(63, 0, b), send(0, 64, b), send(-1, -1, b), send(-1, -2, b), send(-16, -1, b), send(-1, -17, b)} {
		does(t, "of one side", n, c, answer{err: errNode})
	}
	does(t, "behind refused ones", n, send(-1, 0, b), answer{n: 9})
}

// Places about the flight's ends, at flights of 0 to 9 frames, by each call that takes a place.
func TestPlaces(t *testing.T) {
	for length := range 10 {
		for _, kind := range []int{doDeliver, doLose, doTwin} {
			places := append([]int{-2, -1}, hard...)
			for i := range length + 3 {
				places = append(places, i)
			}
			for _, place := range places {
				n, m := fresh(t, 2, 2), newModel(2, 2)
				var script []call
				for i := range length {
					script = append(script, send(-1-i%2, i/2%2, fmt.Sprint("frame ", i)))
				}
				script = append(script, call{kind: kind, place: place}, send(0, -1, "behind"), call{kind: kind, place: place})
				holdAgainst(t, n, m, script)
				if got, want := drained(t, n), m.flight(); !slices.Equal(got, want) {
					t.Fatalf("P21.3: behind %v Deliver(0) tells %v, want %v", script, got, want)
				}
			}
		}
	}
}

// Nothing is under way: at the beginning, and when all frames have left.
func TestEmptyFlight(t *testing.T) {
	for _, goes := range []call{{kind: doLen}, deliver(0), lose(0)} {
		n := fresh(t, 1, 1)
		next := 1
		if goes.kind != doLen {
			n.Send(-1, 0, []byte("a"))
			on(t, n, goes)
			next++
		}
		for _, place := range []int{0, 1, -1} {
			for _, c := range []call{deliver(place), lose(place), twin(place)} {
				does(t, "P21.1: nothing is under way", n, c, answer{err: errNode})
				flies(t, "P21.1: nothing is under way", n)
			}
		}
		does(t, "P21.1: the first again", n, send(0, -1, "b"), answer{n: next})
		flies(t, "P21.1: the first again", n, seen{next, 0, -1, "b"})
	}
}

// Bytes: none, nil, each one, many; what isn't a message too.
func TestBytes(t *testing.T) {
	n := fresh(t, 1, 1)
	each := make([]byte, 256)
	for i := range each {
		each[i] = byte(i)
	}
	many := bytes.Repeat(each, 8192)
	list := [][]byte{nil, {}, {0}, {255}, []byte("\xff\xfe\xc3"), each, many, many[:1<<20+4], many[:1<<20+5], nil}
	for i := range each {
		list = append(list, each[i:i+1])
	}
	for i, b := range list {
		if k, err := n.Send(-1, 0, b); k != i+1 || err != ok {
			t.Fatalf("P21.1: Send of %d bytes = %d, %d", len(b), k, int(err))
		}
	}
	for i, f := range n.Flight() {
		if !bytes.Equal(f.Bytes, list[i]) {
			t.Errorf("P21.1: the flight has other bytes at %d", i)
		}
	}
	for i := range list {
		if k, err := n.Twin(i); k != len(list)+i+1 || err != ok {
			t.Fatalf("P21.1: Twin(%d) = %d, %d", i, k, int(err))
		}
	}
	for i := range 2 * len(list) {
		if f, err := n.Deliver(0); err != ok || !bytes.Equal(f.Bytes, list[i%len(list)]) {
			t.Errorf("P21.2: the frame %d has other bytes than were sent", i+1)
		}
	}
}

// Twins of twins, and of a frame that was then delivered or lost.
func TestTwins(t *testing.T) {
	for _, kind := range []int{doDeliver, doLose} {
		n := fresh(t, 2, 2)
		does(t, "twins", n, send(-2, 1, "a"), answer{n: 1})
		does(t, "twins", n, send(1, -2, "b"), answer{n: 2})
		does(t, "twins", n, twin(0), answer{n: 3})
		does(t, "twins", n, twin(2), answer{n: 4})
		does(t, "twins", n, twin(0), answer{n: 5})
		flies(t, "twins", n, seen{1, -2, 1, "a"}, seen{2, 1, -2, "b"}, seen{3, -2, 1, "a"}, seen{4, -2, 1, "a"}, seen{5, -2, 1, "a"})
		on(t, n, call{kind: kind, place: 0})
		flies(t, "without the first", n, seen{2, 1, -2, "b"}, seen{3, -2, 1, "a"}, seen{4, -2, 1, "a"}, seen{5, -2, 1, "a"})
		on(t, n, call{kind: kind, place: 1})
		does(t, "a twin of a twin whose own is gone", n, twin(1), answer{n: 6})
		does(t, "a twin of what was never twinned", n, twin(0), answer{n: 7})
		on(t, n, call{kind: kind, place: 3})
		flies(t, "without its twin", n, seen{2, 1, -2, "b"}, seen{4, -2, 1, "a"}, seen{5, -2, 1, "a"}, seen{7, 1, -2, "b"})
		does(t, "delivered", n, deliver(1), answer{frame: seen{4, -2, 1, "a"}})
		does(t, "delivered", n, deliver(1), answer{frame: seen{5, -2, 1, "a"}})
		does(t, "delivered", n, deliver(1), answer{frame: seen{7, 1, -2, "b"}})
		does(t, "delivered", n, deliver(0), answer{frame: seen{2, 1, -2, "b"}})
		flies(t, "all gone", n)
	}
}

// No number comes again, though all frames that had one are gone.
func TestNumbersOnce(t *testing.T) {
	n := fresh(t, 1, 1)
	for i := range 100 {
		does(t, "P21.1: numbers", n, send(-1, 0, "a"), answer{n: 3*i + 1})
		does(t, "P21.1: numbers", n, twin(0), answer{n: 3*i + 2})
		does(t, "P21.1: numbers", n, lose(1), answer{})
		does(t, "P21.1: numbers", n, twin(0), answer{n: 3*i + 3})
		does(t, "P21.1: numbers", n, deliver(0), answer{frame: seen{3*i + 1, -1, 0, "a"}})
		does(t, "P21.1: numbers", n, deliver(0), answer{frame: seen{3*i + 3, -1, 0, "a"}})
	}
}

// eachScript tells all scripts of so many calls.
func eachScript(alphabet []call, length int, tell func([]call)) {
	script := make([]call, length)
	var from func(int)
	from = func(i int) {
		if i == length {
			tell(script)
			return
		}
		for _, c := range alphabet {
			script[i] = c
			from(i + 1)
		}
	}
	from(0)
}

func TestShortScripts(t *testing.T) {
	alphabet := []call{send(-1, 0, "xy"), send(1, -1, ""), send(0, 1, "no"), deliver(0), deliver(1), lose(0), lose(2), twin(0), twin(1)}
	eachScript(alphabet, 5, func(script []call) { holdAgainst(t, fresh(t, 2, 1), newModel(2, 1), script) })
}

// Short scripts in the midst of a flight, so that frames leave from all places of it.
func TestShortScriptsInTheMidst(t *testing.T) {
	begin := []call{send(-1, 0, "a"), send(0, -1, "b"), send(-1, 1, ""), twin(1), lose(0), send(1, -1, "c"), twin(0)}
	alphabet := []call{send(-1, 0, "xy"), deliver(0), deliver(1), deliver(2), deliver(3), deliver(4), lose(0), lose(1), lose(3), lose(5), twin(0), twin(4)}
	eachScript(alphabet, 4, func(script []call) {
		holdAgainst(t, fresh(t, 2, 1), newModel(2, 1), append(slices.Clone(begin), script...))
	})
}

// chance makes calls.
type chance struct{ *rand.Rand }

func newChance(seed int) chance { return chance{rand.New(rand.NewSource(int64(seed)))} }

func (g chance) node(parts, clients int) int {
	if g.Intn(20) == 0 {
		return []int{parts, -clients - 1, math.MinInt, math.MaxInt}[g.Intn(4)]
	}
	return g.Intn(parts+clients) - clients
}

// ways are two nodes, most often one of each side.
func (g chance) ways(parts, clients int) (int, int) {
	if g.Intn(6) == 0 {
		return g.node(parts, clients), g.node(parts, clients)
	}
	part, client := g.Intn(parts), -1-g.Intn(clients)
	if g.Intn(2) == 0 {
		return part, client
	}
	return client, part
}

// place is one of a flight of so many frames, most often.
func (g chance) place(length int) int {
	switch g.Intn(12) {
	case 0:
		return length
	case 1:
		return -1
	case 2:
		return hard[g.Intn(len(hard))]
	case 3, 4, 5:
		return 0
	case 6:
		return length - 1
	}
	return g.Intn(length + 1)
}

func (g chance) text() string {
	b := make([]byte, g.Intn(5)*g.Intn(5))
	g.Read(b)
	return string(b)
}

// call is one of a script; the greater grows is, the more frames come than go.
func (g chance) call(m *model, grows int) call {
	length := len(m.flight())
	switch r := g.Intn(8 + grows); r {
	case 0, 1:
		return deliver(g.place(length))
	case 2:
		return lose(g.place(length))
	case 3, 4:
		return twin(g.place(length))
	}
	from, to := g.ways(m.parts, m.clients)
	return send(from, to, g.text())
}

func (g chance) size() (int, int) {
	s := sizes[g.Intn(len(sizes))]
	return s[0], s[1]
}

// Scripts of chance against the model, then Deliver(0) until nothing is under way.
func TestScriptsByChance(t *testing.T) {
	g := newChance(211)
	emptied, longest := 0, 0
	for range 2000 {
		parts, clients := g.size()
		n, m := fresh(t, parts, clients), newModel(parts, clients)
		grows := g.Intn(4)
		for range 80 {
			holdAgainst(t, n, m, []call{g.call(m, grows)})
			longest = max(longest, n.Len())
			if len(m.frames) > 0 && n.Len() == 0 {
				emptied++
			}
		}
		for n.Len() > 0 {
			holdAgainst(t, n, m, []call{deliver(0)})
		}
	}
	if emptied < 100 || longest < 40 {
		t.Errorf("the scripts emptied a flight %d times, and the longest had %d frames", emptied, longest)
	}
}

// Two nets by turns, by scripts of their own, know nothing of each other.
func TestTwoByTurns(t *testing.T) {
	g := newChance(212)
	for range 300 {
		var nets [2]*Net
		var models [2]*model
		for i := range nets {
			parts, clients := g.size()
			nets[i], models[i] = fresh(t, parts, clients), newModel(parts, clients)
		}
		for range 100 {
			i := g.Intn(2)
			holdAgainst(t, nets[i], models[i], []call{g.call(models[i], 2)})
			flies(t, "P21.1: the other net", nets[1-i], models[1-i].flight()...)
		}
	}
}

// The same calls on new nets give the same answers.
func TestOneOutcome(t *testing.T) {
	g := newChance(213)
	for range 100 {
		parts, clients := g.size()
		n, m, other := fresh(t, parts, clients), newModel(parts, clients), fresh(t, parts, clients)
		for range 100 {
			c := g.call(m, 3)
			m.do(c)
			if a, b := on(t, n, c), on(t, other, c); !same(a, b) {
				t.Fatalf("one outcome: %v tells %s and %s", c, short(a), short(b))
			}
		}
		flies(t, "one outcome", n, seeAll(other.Flight())...)
	}
}

// In each state, behind each refused call: the flight is as it was, and no number was taken.
func TestRefusedIsUnchanged(t *testing.T) {
	g := newChance(214)
	for range 300 {
		n, m := fresh(t, 2, 2), newModel(2, 2)
		for range g.Intn(30) {
			c := g.call(m, 2)
			on(t, n, c)
			m.do(c)
		}
		was := seeAll(n.Flight())
		refused := []call{send(0, 0, "x"), send(0, 1, "x"), send(-1, -2, "x"), send(2, -1, "x"), send(-3, 0, "x"), send(0, -3, "x"), send(-1, 2, ""), send(math.MinInt, 0, "x"), send(0, math.MinInt, "x")}
		for _, place := range append([]int{-1, len(was), len(was) + 1}, math.MinInt, math.MaxInt) {
			refused = append(refused, deliver(place), lose(place), twin(place))
		}
		for _, c := range refused {
			does(t, "refused", n, c, answer{err: errNode})
			flies(t, "behind a refused call", n, was...)
		}
		next := len(m.frames) + 1
		does(t, "behind refused calls", n, send(-1, 0, "next"), answer{n: next})
		flies(t, "behind refused calls", n, append(was, seen{next, -1, 0, "next"})...)
	}
}

// P21.2.

// book is what was sent and twinned, and what was delivered and lost, as the net told it.
type book struct {
	came map[int]seen
	went map[int]seen
}

// writes does a call, and writes down what it told.
func (b *book) writes(t *testing.T, n *Net, c call) {
	t.Helper()
	ahead := seeAll(n.Flight())
	a := on(t, n, c)
	if a.err != ok {
		return
	}
	switch c.kind {
	case doSend:
		b.comes(t, seen{a.n, c.from, c.to, c.b})
	case doTwin:
		of := ahead[c.place]
		b.comes(t, seen{a.n, of.from, of.to, of.bytes})
	case doDeliver:
		b.goes(t, a.frame)
	case doLose:
		b.goes(t, ahead[c.place])
	}
}

func (b *book) comes(t *testing.T, f seen) {
	t.Helper()
	if _, twice := b.came[f.number]; twice {
		t.Fatalf("P21.2: the number %d was given twice", f.number)
	}
	b.came[f.number] = f
}

func (b *book) goes(t *testing.T, f seen) {
	t.Helper()
	if came, known := b.came[f.number]; !known || came != f {
		t.Fatalf("P21.2: what left is %+v, what came %+v", f, came)
	}
	if _, twice := b.went[f.number]; twice {
		t.Fatalf("P21.2: the frame %d left twice", f.number)
	}
	b.went[f.number] = f
}

// closes holds the flight against the book: what came less what went is under way.
func (b *book) closes(t *testing.T, n *Net) {
	t.Helper()
	l := seeAll(n.Flight())
	if len(l) != len(b.came)-len(b.went) || n.Len() != len(l) {
		t.Fatalf("P21.2: %d came, %d went, %d are under way, Len() = %d", len(b.came), len(b.went), len(l), n.Len())
	}
	for _, f := range l {
		if _, gone := b.went[f.number]; gone || b.came[f.number] != f {
			t.Fatalf("P21.2: %+v is under way: gone %t, came %+v", f, gone, b.came[f.number])
		}
	}
	if !rises(l) {
		t.Fatalf("P21.3: the flight's numbers don't rise: %s", short(l))
	}
}

// By books, and by the flight's numbers behind each call; the model only tells how long the flight is.
func TestBooks(t *testing.T) {
	g := newChance(215)
	for range 1500 {
		parts, clients := g.size()
		n, m := fresh(t, parts, clients), newModel(parts, clients)
		b := &book{map[int]seen{}, map[int]seen{}}
		grows := g.Intn(4)
		for range 80 {
			c := g.call(m, grows)
			m.do(c)
			b.writes(t, n, c)
			b.closes(t, n)
		}
		rest := drained(t, n)
		for _, f := range rest {
			b.goes(t, f)
		}
		b.closes(t, n)
		if !rises(rest) {
			t.Fatalf("P21.3: Deliver(0) tells %s", short(rest))
		}
		if len(b.went) != len(b.came) {
			t.Fatalf("P21.2: %d came, %d went, and nothing is under way", len(b.came), len(b.went))
		}
	}
}

// P21.3.

// Frames of all ways, some of them twinned, are told by Deliver(0) in the order of their numbers, also while others come.
func TestInOrder(t *testing.T) {
	n := fresh(t, 64, 16)
	sent := 0
	for i := range 500 {
		n.Send(-1-i%16, i%64, []byte{byte(i)})
		n.Twin(i % n.Len())
		n.Send(i%64, -1-i%16, []byte{byte(i)})
		sent += 3
	}
	for want := 1; n.Len() > 0; want++ {
		if f, err := n.Deliver(0); f.Number != want || err != ok {
			t.Fatalf("P21.3: Deliver(0) = %d, %d, want %d", f.Number, int(err), want)
		}
		if sent < 2000 && want%3 == 0 {
			sent++
			if k, _ := n.Send(-1, 0, nil); k != sent {
				t.Fatalf("P21.1: Send = %d, want %d", k, sent)
			}
		}
		if !rises(seeAll(n.Flight())) {
			t.Fatal("P21.3: the flight's numbers don't rise")
		}
	}
}

// Memory.

// Bytes that are handed in are not changed, and may be written over at once.
func TestHandedInIsNotKept(t *testing.T) {
	n := fresh(t, 1, 1)
	b := roomy("abc")
	n.Send(-1, 0, b)
	n.Send(0, 0, b)
	if !isRoomy(b, "abc") {
		t.Errorf("memory: Send changed what it was handed: %q", b[:cap(b)])
	}
	fill(b, 'X')
	flies(t, "memory: written over", n, seen{1, -1, 0, "abc"})
	n.Send(-1, 0, b[:1])
	fill(b, 'Y')
	n.Twin(0)
	n.Twin(1)
	fill(b, 'Z')
	flies(t, "memory: written over", n, seen{1, -1, 0, "abc"}, seen{2, -1, 0, "X"}, seen{3, -1, 0, "abc"}, seen{4, -1, 0, "X"})
}

// What was told may be handed in; it is still the caller's own.
func TestSendOfATold(t *testing.T) {
	n := fresh(t, 1, 1)
	n.Send(-1, 0, []byte("abc"))
	told := n.Flight()[0].Bytes
	n.Send(0, -1, told)
	fill(told, 'X')
	f, _ := n.Deliver(0)
	n.Send(0, -1, f.Bytes)
	fill(f.Bytes, 'Y')
	flies(t, "memory: what was told, sent", n, seen{2, 0, -1, "abc"}, seen{3, 0, -1, "abc"})
}

// What is told is written full and lengthened: neither the net nor another list of that answer, or of another one, changes.
func TestToldIsNewMemory(t *testing.T) {
	for _, text := range []string{"a", "abc", strings.Repeat("long ", 1000)} {
		n := fresh(t, 1, 1)
		n.Send(-1, 0, []byte(text))
		n.Twin(0)
		n.Send(0, -1, []byte(text))
		n.Twin(1)
		want := []seen{{1, -1, 0, text}, {2, -1, 0, text}, {3, 0, -1, text}, {4, -1, 0, text}}
		for i := range want {
			l, other := n.Flight(), n.Flight()
			fill(l[i].Bytes, 'X')
			for k, f := range l {
				if k != i && see(f) != want[k] {
					t.Errorf("memory: the frames %d and %d of an answer share bytes", i, k)
				}
			}
			spoilFlight(l)
			if !slices.Equal(seeAll(other), want) {
				t.Errorf("memory: two answers of Flight share: %s", short(seeAll(other)))
			}
			flies(t, "memory: a spoilt Flight", n, want...)
		}
		ahead := n.Flight()
		f, _ := n.Deliver(0)
		spoilFrame(f)
		flies(t, "memory: a spoilt frame with twins", n, want[1:]...)
		g, _ := n.Deliver(2)
		if see(g) != want[3] {
			t.Errorf("memory: twins that were delivered share: %s", short(see(g)))
		}
		spoilFrame(g)
		flies(t, "memory: a spoilt twin", n, want[1:3]...)
		if !slices.Equal(seeAll(ahead), want) {
			t.Errorf("memory: Deliver and Flight share: %s", short(seeAll(ahead)))
		}
	}
}

// What was told stays as it was, whatever comes then.
func TestToldStays(t *testing.T) {
	g := newChance(216)
	type told struct {
		frames []Frame
		was    []seen
	}
	for range 100 {
		n, m := fresh(t, 2, 2), newModel(2, 2)
		var all []told
		for range 100 {
			c := g.call(m, 2)
			m.do(c)
			if c.kind == doDeliver {
				f, _ := n.Deliver(c.place)
				all = append(all, told{[]Frame{f}, []seen{see(f)}})
			} else {
				on(t, n, c)
			}
			l := n.Flight()
			all = append(all, told{l, seeAll(l)})
		}
		for _, x := range all {
			if !slices.Equal(seeAll(x.frames), x.was) {
				t.Fatalf("memory: what was told as %s is now %s", short(x.was), short(seeAll(x.frames)))
			}
		}
	}
}

// Beside a refusal there is nothing; a frame without bytes has none.
func TestZeroResults(t *testing.T) {
	n := fresh(t, 1, 1)
	n.Send(-1, 0, nil)
	if f, err := n.Deliver(1); err != errNode || f.Number != 0 || f.From != 0 || f.To != 0 || len(f.Bytes) != 0 {
		t.Errorf("P21.1: Deliver(1) = %+v, %d", f, int(err))
	}
	if k, err := n.Twin(1); k != 0 || err != errNode {
		t.Errorf("P21.1: Twin(1) = %d, %d", k, int(err))
	}
	if k, err := n.Send(0, 0, []byte("a")); k != 0 || err != errNode {
		t.Errorf("P21.1: Send(0, 0) = %d, %d", k, int(err))
	}
	if f, err := n.Deliver(0); err != ok || f.Number != 1 || len(f.Bytes) != 0 {
		t.Errorf("P21.1: Deliver(0) = %+v, %d", f, int(err))
	}
}

func inUse() int64 {
	runtime.GC()
	runtime.GC()
	var m runtime.MemStats
	runtime.ReadMemStats(&m)
	return int64(m.HeapAlloc)
}

// left is a net whose one great frame has left it, from that place of a flight of that length.
func left(t *testing.T, length, place, kind int, great []byte) *Net {
	t.Helper()
	n := fresh(t, 1, 1)
	for i := range length {
		if i == place {
			n.Send(-1, 0, great)
		} else {
			n.Send(-1, 0, nil)
		}
	}
	on(t, n, call{kind: kind, place: place})
	return n
}

// Of a frame that has left nothing is kept, from whatever place it went.
func TestNothingIsKeptOfTheLeft(t *testing.T) {
	great := bytes.Repeat([]byte("x"), 1<<18)
	before := inUse()
	var nets []*Net
	for length := range 13 {
		for place := range length {
			nets = append(nets, left(t, length, place, doDeliver, great), left(t, length, place, doLose, great))
		}
	}
	if grown := inUse() - before; grown > 2<<20 {
		t.Errorf("memory: %d bytes are kept of %d frames that have left", grown, len(nets))
	}
	runtime.KeepAlive(nets)
}

// Nor is anything kept of a long row of frames, each of which was under way for a while.
func TestNothingIsKeptOfARow(t *testing.T) {
	great := bytes.Repeat([]byte("x"), 1<<18)
	before := inUse()
	n := fresh(t, 1, 1)
	for i := range 1000 {
		n.Send(-1, 0, great)
		if i >= 3 {
			n.Deliver(i % 4)
		}
	}
	if grown := inUse() - before; grown > 2<<20 {
		t.Errorf("memory: %d bytes are kept, with %d frames under way", grown, n.Len())
	}
	runtime.KeepAlive(n)
}

// A frame's bytes are kept once for all its twins, so that many of them have room.
func TestTwinsKeepNoMore(t *testing.T) {
	great := bytes.Repeat([]byte("x"), 1<<20)
	before := inUse()
	n := fresh(t, 1, 1)
	n.Send(-1, 0, great)
	for i := range 200 {
		n.Twin(i)
	}
	if grown := inUse() - before; grown > 8<<20 {
		t.Errorf("memory: %d bytes are kept of a frame and its twins", grown)
	}
	runtime.KeepAlive(n)
}

// Great flights, in the time that there is: frames leave at both ends, and come anew meanwhile.
func TestGreat(t *testing.T) {
	n := fresh(t, 64, 16)
	const many = 300000
	for i := range many {
		n.Send(-1-i%16, i%64, nil)
	}
	for range many {
		n.Twin(n.Len() - 1)
	}
	first, last := 1, 2*many
	for n.Len() > many {
		f, _ := n.Deliver(0)
		g, _ := n.Deliver(n.Len() - 1)
		if f.Number != first || g.Number != last {
			t.Fatalf("P21.3: the ends are %d and %d, want %d and %d", f.Number, g.Number, first, last)
		}
		first++
		last--
	}
	next := 2*many + 1
	for range many {
		if k, _ := n.Send(0, -1, nil); k != next {
			t.Fatalf("P21.1: Send = %d, want %d", k, next)
		}
		next++
		if f, _ := n.Deliver(0); f.Number != first {
			t.Fatalf("P21.3: Deliver(0) = %d, want %d", f.Number, first)
		}
		first++
	}
	if n.Len() != many {
		t.Errorf("P21.2: %d are under way, want %d", n.Len(), many)
	}
}
