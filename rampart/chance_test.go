package rampart_test

import (
	"fmt"
	"math"
	"math/rand"
	"reflect"
	"slices"
	"strconv"
	"strings"
	"testing"

	"rampart/api"
	"rampart/rampart"
)

// Lines, scripts and events of chance, held against the model.

type chance struct{ *rand.Rand }

func newChance(seed int64) chance { return chance{rand.New(rand.NewSource(seed))} }

func (g chance) oneIn(n int) bool { return g.Intn(n) == 0 }

func pick[T any](g chance, l ...T) T { return l[g.Intn(len(l))] }

// blanks are some, at least so many.
func (g chance) blanks(least int) string {
	out := strings.Repeat(" ", least)
	for g.oneIn(12) {
		out += pick(g, " ", "\t", "\t")
	}
	if g.oneIn(30) {
		out = strings.ReplaceAll(out, " ", "\t")
	}
	return out
}

// number is one in its digits, now and then with noughts in front.
func (g chance) number(n int) string {
	s := strconv.Itoa(n)
	if g.oneIn(20) {
		s = strings.Repeat("0", g.Intn(max(1, 14-len(s)))) + s
	}
	if g.oneIn(200) {
		s = pick(g, "999999999999", "65536", "4294967296", "0000000000000", "")
	}
	return s
}

// text is a word for one; few of them, that requests meet.
func (g chance) text() string {
	if g.oneIn(40) {
		return modelWritten(g.bytes(1 + g.Intn(5)))
	}
	return pick(g, "a", "a", "b", "b", "c", "d", "e", "%", "%20", "-", "ab")
}

func (g chance) bytes(n int) string {
	b := make([]byte, n)
	for i := range b {
		b[i] = byte(g.Intn(256))
	}
	return string(b)
}

// mood is how often each command comes.
type mood []string

func (g chance) mood() mood {
	return pick(g,
		mood(strings.Fields("write write read read run deliver deliver deliver answers flight state tick part")),
		mood(strings.Fields("write read read deliver deliver deliver deliver deliver deliver lose twin tick answers")),
		mood(strings.Fields("write read run run crash restart restart tick tick part arm full answers state state")),
		mood(strings.Fields("write read deliver deliver part part part give stop drain history answers tick")),
		mood(strings.Fields("write write read deliver deliver deliver deliver deliver deliver deliver part part flight give answers")),
		mood(strings.Fields("write read deliver deliver deliver deliver deliver lose twin part flight")),
		mood(all()),
	)
}

// line is a command for a cluster of so many, mostly one that finds what it names.
func (g chance) line(m mood, parts, clients int) string {
	part := func() string { return g.number(g.Intn(parts + g.Intn(2))) }
	client := func() string { return g.number(g.Intn(clients + g.Intn(2))) }
	n := func() string { return g.number(pick(g, 0, 0, 0, 0, 1, 1, 2, 3, 4, 6)) }
	word := pick(g, m...)
	words := []string{word}
	switch word {
	case "cluster":
		words = append(words, g.number(pick(g, 0, 1, 2, 3, 4, 65)), g.number(pick(g, 1, 2, 3, 3, 17)), g.number(pick(g, 0, 1, 2, 10)), g.number(pick(g, 0, 0, 1, 100)))
		if g.oneIn(3) {
			words = append(words, "first="+g.number(pick(g, 0, 1, 5, maxSeq-2, maxSeq, maxSeq+1)))
		}
	case "write":
		words = append(words, client())
		if g.oneIn(2) {
			words = append(words, "a="+g.text(), "b="+g.text())
			break
		}
		for range g.Intn(4) {
			words = append(words, g.text()+"="+g.text())
		}
	case "read":
		words = append(words, client())
		if g.oneIn(2) {
			words = append(words, "b", "a")
			break
		}
		for range g.Intn(4) {
			words = append(words, g.text())
		}
	case "tick", "stop":
		words = append(words, client())
	case "give":
		words = append(words, client(), g.number(1+g.Intn(4)))
	case "deliver", "lose", "twin":
		words = append(words, n())
	case "run":
		words = append(words, g.number(pick(g, 0, 1, 2, 3, 5, 8, 100)))
	case "part", "restart", "state":
		words = append(words, part())
	case "crash":
		words = append(words, part(), g.number(pick(g, 0, 0, 10, 50, 100000)))
	case "full":
		words = append(words, part(), n())
	case "arm":
		words = append(words, part(), n(), g.number(pick(g, 0, 0, 10, 50, 100000)))
	}
	out := g.blanks(0)
	for i, w := range words {
		if i > 0 {
			out += g.blanks(1)
		}
		out += w
	}
	out += g.blanks(0)
	if g.oneIn(25) {
		out += "#" + pick(g, "", " a remark", "#", " flight", "\xff")
	}
	return out
}

// spoil changes a line in a place or two.
func (g chance) spoil(line string) string {
	for more := true; more; more = g.oneIn(3) {
		at := g.Intn(len(line) + 1)
		bit := pick(g, " ", "\t", "#", "%", "=", "0", "1", "a", "f", "A", "-", "%2", "%20", "%61", "\n", "\r", "\x00", "\xff", "é", " 1", "a=b ", "first=1")
		switch g.Intn(4) {
		case 0:
			line = line[:at] + bit + line[at:]
		case 1:
			line = line[:at] + line[min(len(line), at+1+g.Intn(3)):]
		case 2:
			line = line[:at] + bit + line[min(len(line), at+1):]
		case 3: // a word twice, or gone
			words := strings.Split(line, " ")
			i := g.Intn(len(words))
			line = strings.Join(slices.Concat(words[:i], pick(g, nil, []string{words[i], words[i]}), words[i+1:]), " ")
		}
	}
	return line
}

// script is lines that are commands, or say nothing, but for what the numbers of chance make of them.
func (g chance) script(n int) []string {
	parts, clients := 1+g.Intn(4), 1+g.Intn(4)
	lines := []string{fmt.Sprintf("cluster %d %d %d %d", parts, clients, pick(g, 0, 1, 2, 10), pick(g, 0, 0, 1, 60))}
	if g.oneIn(8) {
		lines = nil
	}
	if g.oneIn(5) && lines != nil {
		lines[0] += fmt.Sprint(" first=", pick(g, maxSeq-1, maxSeq, 7))
	}
	m := g.mood()
	for range n {
		if g.oneIn(50) {
			m = g.mood()
		}
		line := g.line(m, parts, clients)
		if g.oneIn(40) {
			line = pick(g, "", " ", "# nothing", "answers", "history", "drain")
		}
		lines = append(lines, line)
	}
	return lines
}

// torn is a script in which reads meet writes that are committed by halves, and versions that are gone.
func (g chance) torn(n int) []string {
	lines := []string{fmt.Sprintf("cluster 2 3 %d %d", g.Intn(2), pick(g, 0, 0, 60))}
	for i := range n {
		switch k := g.Intn(24); {
		case k < 2:
			lines = append(lines, fmt.Sprintf("write %d a=%d b=%d", k, i, i))
		case k < 4:
			lines = append(lines, "read 2 a b")
		case k < 6:
			lines = append(lines, fmt.Sprint("part ", g.Intn(2)))
		case k < 8:
			lines = append(lines, pick(g, "flight", "answers", "tick 0", "give 2 3"))
		default:
			lines = append(lines, fmt.Sprint("deliver ", g.Intn(6)))
		}
	}
	return append(lines, "flight", "drain", "answers", "history")
}

// right are the lines of a script that are commands or say nothing.
func right(lines []string) []string {
	return slices.DeleteFunc(slices.Clone(lines), func(line string) bool { _, is := modelRead(line); return !is })
}

// sawEnough holds that a test saw each of these things at least so often.
func sawEnough(t *testing.T, saw map[string]int, least int, things ...string) {
	t.Helper()
	for _, thing := range things {
		if saw[thing] < least {
			t.Errorf("the test saw %q %d times; it should be %d at least", thing, saw[thing], least)
		}
	}
}

// both holds Check and Step of a line against the model: whether it is a command or says nothing.
func both(t *testing.T, line string) bool {
	t.Helper()
	_, want := modelRead(line)
	if !strings.Contains(line, "\n") {
		n, err := rampart.Check(line)
		if want && (n != 0 || err != ok) || !want && (n != 1 || err != errLine) {
			t.Errorf("P25.1: Check(%s) is %d, %d; whether it is a command: %t", short(line), n, int(err), want)
		}
	}
	step, is := rampart.Step(line)
	if wantStep, wantIs := modelStep(line); is != wantIs || !sameStep(step, wantStep) {
		t.Errorf("P25.1: Step(%s) is %s, %t; it should be %s, %t", short(line), show(step), is, show(wantStep), wantIs)
	}
	return want
}

func TestLinesByChance(t *testing.T) {
	g, saw := newChance(251), map[string]int{}
	for range 120000 {
		line := g.line(pick(g, mood(all()), g.mood()), 3, 3)
		if g.oneIn(2) {
			line = g.spoil(line)
		}
		is := both(t, line)
		word, _, _ := strings.Cut(strings.Trim(line, " \t"), " ")
		saw[fmt.Sprint(word, is)]++
	}
	for _, word := range all() {
		sawEnough(t, saw, 100, word+"true", word+"false")
	}
}

// Every short text behind the beginnings of requests, and every short line.
func TestAllShortTexts(t *testing.T) {
	letters := []string{"%", "=", "2", "0", "a", "F", " ", "#"}
	var grow func(s string, n int)
	grow = func(s string, n int) {
		for _, front := range []string{"read 0 ", "write 0 ", "write 0 a=", "deliver ", "read 0 %4"} {
			both(t, front+s)
		}
		if n > 0 {
			for _, letter := range letters {
				grow(s+letter, n-1)
			}
		}
	}
	grow("", 5)
}

// count notes what a line told.
func count(saw map[string]int, line, text string, err api.Errno) {
	c, _ := modelRead(line)
	for i, row := range strings.Split(strings.TrimSuffix(text, "\n"), "\n") {
		words := strings.Fields(row)
		switch {
		case len(words) == 0:
		case i == 0:
			saw[c.word+" "+words[0]]++
		case c.word == "flight":
			saw["flight: "+words[0]]++
		case len(words) > 2:
			saw["event: "+words[2]]++
		}
	}
	if err != ok {
		saw[fmt.Sprint("refused ", int(err))]++
	}
}

// Do, line by line, and Play, of scripts of chance; with lines among them that are none.
func TestScriptsByChance(t *testing.T) {
	g, saw := newChance(252), map[string]int{}
	for range 800 {
		lines := g.script(20 + g.Intn(180))
		if g.oneIn(4) {
			lines = g.torn(60 + g.Intn(200))
		}
		s, x := rampart.New(), &model{}
		end := len(lines) + 1
		if g.oneIn(8) {
			end = g.Intn(len(lines))
		}
		for i, line := range lines {
			if i == end {
				s.Close()
				x.close()
			}
			if g.oneIn(30) {
				line = g.spoil(line)
				lines[i] = line
			}
			got, err := s.Do(line)
			want, wantErr := x.do(line)
			if got != want || err != wantErr {
				t.Fatalf("P25.1: the last line of %q tells %s, %d; it should be %s, %d", lines[:i+1], short(got), int(err), short(want), int(wantErr))
			}
			count(saw, line, got, err)
		}
		s.Close()
		x.close()
	}
	for _, word := range all() {
		if word != "history" && word != "answers" && word != "flight" && word != "drain" && word != "run" { // there it is no without a cluster alone
			sawEnough(t, saw, 30, word+" no")
		}
		sawEnough(t, saw, 30, word+" ok")
	}
	sawEnough(t, saw, 50, "refused 1", "refused 250")
	for _, kind := range strings.Fields("prepare commit latest byid prepared committed versions nack") {
		sawEnough(t, saw, 10, "flight: "+kind)
	}
	for _, kind := range strings.Fields("write read ok aborted unknown invalid exhausted") {
		sawEnough(t, saw, 20, "event: "+kind)
	}
	sawEnough(t, saw, 5, "event: stale")
}

// ended is a script of lines, with an end behind the last one or none.
func (g chance) ended(lines []string) string {
	out := strings.Join(lines, "\n")
	if g.oneIn(2) {
		out += "\n"
	}
	return out
}

func TestCheckAndPlayByChance(t *testing.T) {
	g, played, refused := newChance(253), 0, map[int]int{}
	for range 1500 {
		lines := right(g.script(g.Intn(60)))
		if g.oneIn(3) && len(lines) > 0 {
			at := g.Intn(len(lines))
			lines[at] = g.spoil(lines[at])
		}
		script := g.ended(lines)
		n, err := rampart.Check(script)
		if wantN, want := modelCheck(script); n != wantN || err != want {
			t.Fatalf("P25.1: Check(%q) is %d, %d; it should be %d, %d", script, n, int(err), wantN, int(want))
		}
		text, err := rampart.Play(script)
		if wantText, want := modelPlay(script); text != wantText || err != want {
			t.Fatalf("P25.1: Play(%q) is %s, %d; it should be %s, %d", script, short(text), int(err), short(wantText), int(want))
		}
		if err == ok {
			played++
		} else {
			refused[min(n, 10)]++
		}
	}
	if played < 700 || len(refused) < 10 {
		t.Errorf("the test saw %d scripts that were played, and these refused: %v", played, refused)
	}
}

func (g chance) textOfAny() string {
	return pick(g, "", "a", " ", "=", "%", "#", "x y", "%20", "-", "\x00", "ä", g.bytes(g.Intn(6)))
}

func (g chance) number64() int {
	return pick(g, 0, 1, 2, 15, 16, -1, 256, 65536, math.MaxInt, math.MinInt, int(g.Uint64()))
}

func (g chance) id() api.ID {
	return pick(g, 0, 0, 1, 65535, 65536, greatest, api.ID(g.Uint64()))
}

// event is any, also one that can't be.
func (g chance) event() api.Event {
	e := api.Event{Kind: pick(g, 1, 2, 3, 3, 0, 4, g.number64()), Client: g.number64(), Txn: g.number64(), ID: g.id()}
	for range g.Intn(4) {
		e.Pairs = append(e.Pairs, pair(g.textOfAny(), g.textOfAny()))
	}
	for range g.Intn(4) {
		e.Keys = append(e.Keys, g.textOfAny())
	}
	e.Answer = api.Answer{Txn: g.number64(), Result: pick(g, 1, 2, 3, 4, 5, 6, 0, 7, g.number64()), ID: g.id()}
	for range g.Intn(4) {
		v := version(g.textOfAny(), g.id(), g.textOfAny())
		for range g.Intn(3) {
			v.Keys = append(v.Keys, g.textOfAny())
		}
		e.Answer.Versions = append(e.Answer.Versions, v)
	}
	return e
}

func TestTellByChance(t *testing.T) {
	g := newChance(254)
	for range 60000 {
		e := g.event()
		handed := roomy(e)
		if got, want := rampart.Tell(handed), modelTell(e); got != want {
			t.Fatalf("P25.1: Tell(%s) is %s; it should be %s", show(e), short(got), short(want))
		}
		if !alike(reflect.ValueOf(handed), reflect.ValueOf(roomy(e))) {
			t.Fatalf("P25.1: Tell changed what was handed in: %s, it was %s", show(handed), show(e))
		}
	}
}
