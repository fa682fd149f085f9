package rampart_test

import (
	"fmt"
	"runtime"
	"slices"
	"strings"
	"sync"
	"testing"
	"time"

	"rampart/api"
	"rampart/judge"
	"rampart/rampart"
)

// P25.2 to P25.4, each by its own words; and DOC.md's rules.

// byLines is what New and Do tell of lines, one behind the other.
func byLines(t *testing.T, lines []string) string {
	t.Helper()
	s := newShell(t)
	defer s.Close()
	out := ""
	for _, line := range lines {
		text, err := s.Do(line)
		if err != ok {
			t.Fatalf("P25.2: Do refuses %s by %d", short(line), int(err))
		}
		out += text
	}
	return out
}

// P25.2.
func TestPlayIsDoLineByLine(t *testing.T) {
	g, long := newChance(255), 0
	for range 500 {
		lines := right(g.script(g.Intn(150)))
		if g.oneIn(3) {
			lines = right(g.torn(g.Intn(150)))
		}
		script := g.ended(lines)
		got, err := rampart.Play(script)
		if want := byLines(t, lines); got != want || err != ok {
			t.Fatalf("P25.2: Play(%q) is %s, %d; Do tells %s", script, short(got), int(err), short(want))
		}
		long = max(long, len(got))
	}
	if long < 5000 {
		t.Errorf("the longest text that a script told has %d bytes", long)
	}
}

// A script is done from its beginning, whatever was played ahead; one that is refused isn't done at all.
func TestPlayIsANewShell(t *testing.T) {
	script := small + "\nwrite 0 a=1\nread 0\nanswers\nhistory\n"
	want := "ok\nok 1\nok 2\nok 1\n0 2 invalid\nok 3\n0 1 write 65536 a=1\n0 2 read\n0 2 invalid\n"
	for range 3 {
		if got, err := rampart.Play(script); got != want || err != ok {
			t.Errorf("P25.2: Play(%q) is %q, %d; it should be %q", script, got, int(err), want)
		}
		if got, err := rampart.Play("flight\nwrite 0 a=1"); got != "no\nno\n" || err != ok {
			t.Errorf("P25.2: Play of lines without a cluster is %q, %d", got, int(err))
		}
		if got, err := rampart.Play(script + "frob"); got != "" || err != errLine {
			t.Errorf("P25.2: Play of a script with a line that is none is %q, %d", got, int(err))
		}
	}
}

// P25.3: lines that are none, that say nothing, and flight, history and state, put anywhere in a script: all else tells what it told without them.
func TestPutAnywhere(t *testing.T) {
	g := newChance(256)
	puts := []string{"flight", "history", "state 0", "state 1", "state 99", " flight # all", "frob", "run", "write 0 a", "write 0 a=1 b", "read 0 =", "deliver x", "drain 1", "crash 0", "cluster 1 1 1", "cluster 1 1 1 0 first=", "arm 0 0", "tick 0\n", "stop 0 0", "answers 1", "", "#", " \t", strings.Repeat("#", maxLine+1), "stop 0" + strings.Repeat(" ", maxLine)}
	for range 300 {
		lines := right(g.script(g.Intn(100)))
		s, with := newShell(t), newShell(t)
		for i, line := range lines {
			for g.oneIn(2) {
				with.Do(pick(g, puts...))
			}
			got, err := with.Do(line)
			if want, wantErr := s.Do(line); got != want || err != wantErr {
				t.Fatalf("P25.3: with lines between that change nothing the last line of %q tells %s, %d; without %s, %d", lines[:i+1], short(got), int(err), short(want), int(wantErr))
			}
		}
		if told(s) != told(with) {
			t.Fatalf("P25.3: behind %q lines that change nothing changed what is told", lines)
		}
		s.Close()
		with.Close()
	}
}

// Twice asked, twice the same.
func TestAskedTwice(t *testing.T) {
	g := newChance(257)
	for range 150 {
		s := newShell(t)
		for _, line := range right(g.script(60)) {
			s.Do(line)
			for _, ask := range []string{"flight", "history", "state 0", "state 1"} {
				a, _ := s.Do(ask)
				if b, _ := s.Do(ask); a != b {
					t.Fatalf("P25.3: %s tells %s, and then %s", ask, short(a), short(b))
				}
			}
		}
		s.Close()
	}
}

// again is the line that makes the request that an event's line tells of; "": it tells of none.
func again(row string) string {
	words := strings.Split(row, " ")
	switch words[2] {
	case "write":
		return strings.Join(append([]string{"write", words[0]}, words[4:]...), " ")
	case "read":
		return strings.Join(append([]string{"read", words[0]}, words[3:]...), " ")
	}
	return ""
}

// P25.4: of requests with any bytes, made by lines and told by history.
func TestToldTextsAreTheSameRequests(t *testing.T) {
	g := newChance(258)
	requests := 0
	for range 250 {
		lines := []string{"cluster 2 4 10 0"}
		for range 40 {
			words := []string{pick(g, "write ", "read ") + fmt.Sprint(g.Intn(4))}
			for range g.Intn(5) {
				word := modelWritten(g.textOfAny())
				if words[0][0] == 'w' {
					word += "=" + modelWritten(g.textOfAny())
				}
				words = append(words, word)
			}
			lines = append(lines, strings.Join(words, " "), pick(g, "run 100", "deliver 0", "drain", "give 0 1"))
		}
		s, second := newShell(t), newShell(t)
		second.Do(lines[0])
		var did []string
		for i, line := range lines {
			text, _ := s.Do(line)
			if i%2 == 1 && strings.HasPrefix(text, "ok") {
				did = append(did, line)
			}
		}
		text, _ := s.Do("history")
		var made []string
		for _, row := range strings.Split(strings.TrimSuffix(text, "\n"), "\n")[1:] {
			line := again(row)
			if line == "" {
				continue
			}
			made = append(made, line)
			a, isA := rampart.Step(did[len(made)-1])
			b, isB := rampart.Step(line)
			if !isA || !isB || !sameStep(a, b) {
				t.Fatalf("P25.4: the request %q is told as %q, which is %s", did[len(made)-1], row, show(b))
			}
			second.Do(line)
		}
		if len(made) != len(did) {
			t.Fatalf("P25.4: of %d requests the history tells %d", len(did), len(made))
		}
		requests += len(made)
		s.Close()
		second.Close()
	}
	if requests < 5000 {
		t.Errorf("the test saw %d requests", requests)
	}
}

// P25.4, without a cluster: what Step reads and Tell writes are there and back, byte for byte.
func TestTellAndStepThereAndBack(t *testing.T) {
	g := newChance(259)
	for range 30000 {
		e := write(g.Intn(16), 1+g.Intn(99), g.id())
		want := api.Step{Kind: stWrite, Node: e.Client}
		if g.oneIn(2) {
			e = read(e.Client, e.Txn)
			want.Kind = stRead
		}
		for range g.Intn(5) {
			if e.Kind == evRead {
				e.Keys = append(e.Keys, g.textOfAny())
			} else {
				e.Pairs = append(e.Pairs, pair(g.textOfAny(), g.textOfAny()))
			}
		}
		want.Pairs, want.Keys = e.Pairs, e.Keys
		row := rampart.Tell(e)
		if step, is := rampart.Step(again(row)); !is || !sameStep(step, want) {
			t.Fatalf("P25.4: %s is told as %q; read again it is %s, %t", show(e), row, show(step), is)
		}
	}
}

// What scripts of torn and hurried reads tell by history is what the judge takes, read from the lines themselves.
func TestToldHistoriesAreJudgedRight(t *testing.T) {
	g := newChance(260)
	reads := 0
	for range 100 {
		text, err := rampart.Play(strings.Join(g.torn(150), "\n"))
		if err != ok {
			t.Fatalf("P25.1: Play refuses by %d", int(err))
		}
		at := strings.LastIndex(text, "\nok ")
		h := eventsOf(text[at+1:])
		found, jerr := judge.Judge(h)
		if jerr != ok || len(found) > 0 {
			t.Errorf("P25.1: the history that is told, %s, has %d findings, %d", short(text[at+1:]), len(found), int(jerr))
		}
		for _, e := range h {
			if e.Kind == evAnswer && len(e.Answer.Versions) > 0 {
				reads++
			}
		}
	}
	if reads < 300 {
		t.Errorf("the test saw %d reads that are OK", reads)
	}
}

// eventsOf are the events of what history told. (Keys of versions aren't told: those are a and b in each write of torn.)
func eventsOf(text string) []api.Event {
	var out []api.Event
	results := map[string]int{"ok": 1, "stale": 2, "aborted": 3, "unknown": 4, "invalid": 5, "exhausted": 6}
	for _, row := range strings.Split(strings.TrimSuffix(text, "\n"), "\n")[1:] {
		words := strings.Split(row, " ")
		var client, txn int
		var id api.ID
		fmt.Sscan(words[0], &client)
		fmt.Sscan(words[1], &txn)
		switch words[2] {
		case "write":
			fmt.Sscan(words[3], &id)
			step, _ := rampart.Step(again(row))
			out = append(out, write(client, txn, id, step.Pairs...))
		case "read":
			step, _ := rampart.Step(again(row))
			out = append(out, read(client, txn, step.Keys...))
		default:
			rest := words[3:]
			if len(rest) > 1 && rest[0] == "id" {
				fmt.Sscan(rest[1], &id)
				rest = rest[2:]
			}
			var versions []api.Version
			for ; len(rest) > 2; rest = rest[3:] {
				var of api.ID
				fmt.Sscan(rest[1], &of)
				if of == 0 {
					versions = append(versions, version(rest[0], 0, ""))
				} else {
					versions = append(versions, version(rest[0], of, rest[2], "a", "b"))
				}
			}
			out = append(out, answer(client, txn, results[words[2]], id, versions...))
		}
	}
	return out
}

// goroutinesAtMost waits till there are no more than so many.
func goroutinesAtMost(most int) bool {
	for range 500 {
		if runtime.NumGoroutine() <= most {
			return true
		}
		time.Sleep(10 * time.Millisecond)
	}
	return false
}

// A cluster that another one takes the place of, that is closed or was played leaves no worker; one that is refused has none.
func TestWorkersEnd(t *testing.T) {
	before := runtime.NumGoroutine()
	s := rampart.New()
	for range 20 {
		s.Do("cluster 64 16 1 0")
		s.Do("cluster 64 17 1 0")
		s.Do("write 0 a=1 b=2")
		s.Do("crash 3 0")
		s.Do("run 3")
	}
	if !goroutinesAtMost(before + 64) {
		t.Errorf("P25.1: %d goroutines for 64 partitions", runtime.NumGoroutine()-before)
	}
	s.Close()
	s.Do("cluster 64 16 1 0")
	s.Close()
	for range 20 {
		rampart.Play("cluster 64 16 1 0\nwrite 0 a=1 b=2\ncluster 64 16 1 0\nrun 1")
		rampart.Play("cluster 64 16 1 0\nfrob")
		rampart.New().Close()
		rampart.Step("cluster 64 16 1 0")
		rampart.Check("cluster 64 16 1 0\nfrob")
	}
	if !goroutinesAtMost(before) {
		t.Errorf("P25.1: behind Close and Play there are %d goroutines, were %d", runtime.NumGoroutine(), before)
	}
}

// What Step tells is new memory.
func TestStepIsNewMemory(t *testing.T) {
	for _, line := range []string{"write 0 a=1 b=2 c=3", "read 0 a b c"} {
		a, _ := rampart.Step(line)
		b, _ := rampart.Step(line)
		for _, step := range []api.Step{a} {
			for i := range step.Pairs {
				step.Pairs[i] = pair("spoilt", "spoilt")
			}
			for i := range step.Keys {
				step.Keys[i] = "spoilt"
			}
			_, _ = append(step.Pairs, pair("more", "")), append(step.Keys, "more")
		}
		c, _ := rampart.Step(line)
		if want, _ := modelStep(line); !sameStep(b, want) || !sameStep(c, want) {
			t.Errorf("P25.1: what Step tells is shared: %s, %s", show(b), show(c))
		}
	}
}

func inUse() int64 {
	runtime.GC()
	runtime.GC()
	var m runtime.MemStats
	runtime.ReadMemStats(&m)
	return int64(m.HeapAlloc)
}

// Of a long line no more is kept than what it says.
func TestNoLongLineIsKept(t *testing.T) {
	before := inUse()
	s := newShell(t)
	s.Do(small)
	var steps []api.Step
	for i := range 400 {
		long := fmt.Sprintf("a=%d # %s", i, strings.Repeat("x", 60000))
		s.Do("write 0 " + long)
		s.Do("read 0 " + strings.Replace(long, "=", "%3d", 1))
		s.Do("drain #" + long)
		step, _ := rampart.Step("write 0 " + long)
		steps = append(steps, step)
		step, _ = rampart.Step("read 0 " + strings.Replace(long, "=", "%3d", 1))
		steps = append(steps, step)
	}
	if grown := inUse() - before; grown > 6<<20 {
		t.Errorf("P25.1: of short requests in long lines %d bytes are kept", grown)
	}
	runtime.KeepAlive(steps)
	s.Do("cluster 1 1 1 0")
	steps = nil
	if grown := inUse() - before; grown > 1<<20 {
		t.Errorf("P25.1: behind a second cluster %d bytes are kept of the first", grown)
	}
	runtime.KeepAlive(s)
}

// A shell that is closed keeps nothing of its cluster.
func TestClosedKeepsNothing(t *testing.T) {
	before := inUse()
	s := rampart.New()
	s.Do(small)
	for i := range 50 {
		s.Do(fmt.Sprintf("write 0 a=%d%s", i, strings.Repeat("x", 60000)))
		s.Do("drain")
	}
	s.Close()
	if grown := inUse() - before; grown > 1<<20 {
		t.Errorf("P25.1: behind Close %d bytes are kept", grown)
	}
	runtime.KeepAlive(s)
}

// The same lines tell the same, in shells that know nothing of one another, by turns and at once.
func TestOneOutcome(t *testing.T) {
	g := newChance(261)
	var scripts []string
	var want []string
	for range 30 {
		script := strings.Join(right(g.script(80)), "\n")
		text, _ := rampart.Play(script)
		scripts, want = append(scripts, script), append(want, text)
	}
	for _, procs := range []int{1, 2, 8} {
		old := runtime.GOMAXPROCS(procs)
		got := make([]string, 4*len(scripts))
		var workers sync.WaitGroup
		for i := range got {
			workers.Go(func() { got[i], _ = rampart.Play(scripts[i%len(scripts)]) })
		}
		workers.Wait()
		runtime.GOMAXPROCS(old)
		for i := range got {
			if got[i] != want[i%len(want)] {
				t.Fatalf("P25.1: with %d at a time Play(%s) is %s; it was %s", procs, short(scripts[i%len(scripts)]), short(got[i]), short(want[i%len(want)]))
			}
		}
	}
	shells := make([]*rampart.Shell, len(scripts))
	told := make([]string, len(scripts))
	for i := range shells {
		shells[i] = newShell(t)
	}
	for row := range 200 {
		for i, script := range scripts {
			if lines := strings.Split(script, "\n"); row < len(lines) {
				text, _ := shells[i].Do(lines[row])
				told[i] += text
			}
		}
	}
	if !slices.Equal(told, want) {
		t.Errorf("P25.1: shells by turns tell other than alone")
	}
}

// inTime runs f, and holds that it takes no longer than a long time.
func inTime(t *testing.T, what string, f func()) {
	t.Helper()
	start := time.Now()
	f()
	if took := time.Since(start); took > 20*time.Second {
		t.Errorf("P25.1: %s took %s", what, took)
	}
}

// Long lines, scripts, flights and histories.
func TestMany(t *testing.T) {
	inTime(t, "a flight of many", func() {
		script := small + "\nwrite 0 a=1 b=2\n" + strings.Repeat("twin 0\n", 4000) + "flight\nrun 1000000\nflight\nanswers\n"
		text, err := rampart.Play(script)
		if err != ok || !strings.Contains(text, "\nok 4002\nprepare c0 p0 1\nprepare c0 p1 2\nprepare c0 p0 1\n") || !strings.HasSuffix(text, "\nok 8008\nok 0\nok 1\n0 1 ok id 65536\n") {
			t.Errorf("P25.1: a flight of 4002 frames: %s, %d", short(text[max(0, len(text)-100):]), int(err))
		}
	})
	inTime(t, "a history of many", func() {
		script := "cluster 1 2 10 0\n" + strings.Repeat("write 0 a=1\nread 1 a\nrun 100\nanswers\n", 1020) + "history\n"
		text, err := rampart.Play(script)
		if err != ok || !strings.Contains(text, "\nok 4080\n0 1 write 65536 a=1\n1 1 read a\n") || strings.Count(text, "\nok 2\n1 ") != 1019+1 {
			t.Errorf("P25.1: a history of 4080 events: %s, %d", short(text[max(0, len(text)-100):]), int(err))
		}
	})
	inTime(t, "requests of many keys", func() {
		var pairs, keys []string
		for i := range 1024 {
			key := fmt.Sprintf("%x", i)
			pairs, keys = append(pairs, key+"=%"), append(keys, key)
		}
		script := "cluster 8 2 10 0\nwrite 0 " + strings.Join(pairs, " ") + "\nrun 100\n" + strings.Repeat("read 1 "+strings.Join(keys, " ")+"\ndrain\nanswers\n", 5)
		text, err := rampart.Play(script)
		if err != ok || strings.Count(text, " 3ff 65536 %\n") != 5 {
			t.Errorf("P25.1: reads of 1024 keys: %s, %d", short(text), int(err))
		}
	})
	inTime(t, "lines of many words", func() {
		for range 20 {
			rampart.Check("write 0 " + strings.Repeat("a=b ", 16000))
			rampart.Check(strings.Repeat("read 0 "+strings.Repeat("% ", 32000)+"\n", 4))
			rampart.Step("write 0 a=" + strings.Repeat("%00", 21000))
			rampart.Step(strings.Repeat("run ", 16000))
		}
	})
}
