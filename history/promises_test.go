package history_test

import (
	"fmt"
	"math"
	"slices"
	"strings"
	"sync"
	"testing"

	"rampart/api"
	"rampart/history"
)

// upTo calls f with every list of at most n of the things.
func upTo[T any](things []T, n int, f func([]T)) {
	var grow func(l []T)
	grow = func(l []T) {
		f(l)
		if len(l) == n {
			return
		}
		for _, thing := range things {
			grow(append(slices.Clone(l), thing))
		}
	}
	grow(nil)
}

func TestAllShortTexts(t *testing.T) {
	upTo([]string{"0", "1", "a", " ", "\n", "=", "%"}, 5, func(l []string) {
		s := strings.Join(l, "")
		parses(t, "0 1 read a"+s)
		parses(t, "0 1 "+s+"\n")
	})
	upTo([]string{"0", "1", "16", " ", "\n", "=", "%", "read", "write", "ok"}, 4, func(l []string) {
		s := strings.Join(l, "")
		parses(t, s)
		parses(t, "1 1 ok 0 "+s+"\n")
		parses(t, "1 1 write 5 a="+s+"\n")
		parses(t, "1 1 read\n"+s+"0 1 read\n")
	})
}

func TestAllShortLists(t *testing.T) {
	events := list(
		read(0, 1, "a"), read(0, 2), read(1, 1), write(0, 1, 65536), write(0, 2, 131072), write(0, 1, 0), write(0, 2, 0), write(1, 1, 65537), write(0, 1, 131072), write(0, 2, 65536),
		answer(0, 1, rsOK, 0, bottom("a")), answer(0, 1, rsOK, 65536), answer(0, 2, rsOK, 0), answer(0, 1, rsInvalid, 0), answer(0, 2, rsInvalid, 0), answer(1, 1, rsOK, 65537), answer(0, 2, rsUnknown, 131072), api.Event{},
	)
	proper := 0
	upTo(events, 4, func(l []api.Event) {
		if isProper(t, l) {
			proper++
		}
	})
	if proper < 200 {
		t.Errorf("only %d lists are proper", proper)
	}
}

func TestChanceEvents(t *testing.T) {
	for seed := range 6000 {
		c := newChance(seed)
		l := c.events(5)
		for range c.Intn(3) {
			if len(l) > 0 {
				at := c.Intn(len(l))
				l[at] = c.bend(l[at])
			}
		}
		prints(t, l)
		isProper(t, l)
		for client := -1; client <= 16; client++ {
			are(t, l, client)
		}
	}
}

// bendText changes a text a little, in ways that may leave it one of events.
func (c chance) bendText(s string) string {
	at := c.Intn(len(s) + 1)
	end := at + c.Intn(len(s)-at+1)
	switch c.Intn(7) {
	case 0:
		return s[:at]
	case 1:
		return s[at:]
	case 2:
		return s[:at] + s[end:]
	case 3:
		return s[:end] + s[at:]
	case 4:
		return s[:at] + pick(c, " ", "\n", "=", "%", "0", "1", "a", "\x00", "%3d", "%3D", "%41", " a", "=a", "=0") + s[at:]
	case 5:
		return strings.Replace(s, pick(c, " ", "\n", "=", "%", "0", "read", "ok", "a"), pick(c, " ", "\n", "=", "%", "0", "write", "stale", "A", ""), 1)
	}
	if at == len(s) {
		return s + "\n"
	}
	return s[:at] + string([]byte{byte(c.Intn(256))}) + s[at+1:]
}

func TestChanceTexts(t *testing.T) {
	taken, refused := 0, 0
	for seed := range 40000 {
		c := newChance(seed)
		s, _ := modelPrint(c.events(4))
		for range c.Intn(3) {
			s = c.bendText(s)
		}
		parses(t, s)
		if _, _, err := modelParse(s); err == ok {
			taken++
		} else {
			refused++
		}
	}
	if taken < 4000 || refused < 4000 {
		t.Errorf("%d texts taken, %d refused: too few", taken, refused)
	}
}

// bendList changes a list a little, in ways that may leave it proper.
func (c chance) bendList(l []api.Event) []api.Event {
	if len(l) < 2 {
		return l
	}
	at, to := c.Intn(len(l)), c.Intn(len(l))
	l = slices.Clone(l)
	switch c.Intn(6) {
	case 0:
		return without(l, at)
	case 1:
		l[at], l[to] = l[to], l[at]
	case 2:
		return slices.Insert(l, to, l[at])
	case 3:
		l[at] = c.bend(l[at])
	case 4:
		l[at].Client, l[at].Txn = l[to].Client, l[to].Txn
		if l[at].Kind == evAnswer {
			l[at].Answer.Txn = l[at].Txn
		}
	case 5:
		l[at].ID, l[at].Answer.ID, l[at].Answer.Versions = l[to].ID, l[to].Answer.ID, l[to].Answer.Versions
	}
	return l
}

func TestChanceLists(t *testing.T) {
	proper, not := 0, 0
	for seed := range 20000 {
		c := newChance(seed)
		l := c.proper(c.Intn(25))
		if !isProper(t, l) {
			t.Fatalf("P23.1: Proper of %s is false", show(l))
		}
		for range 3 {
			if isProper(t, c.bendList(l)) {
				proper++
			} else {
				not++
			}
		}
		isProper(t, c.bendList(c.bendList(l)))
	}
	if proper < 5000 || not < 5000 {
		t.Errorf("%d bent lists are proper, %d not: too few", proper, not)
	}
}

func TestThereAndBack(t *testing.T) {
	for seed := range 10000 {
		c := newChance(seed)
		l := c.events(8)
		s, err := onPrint(t, l)
		back, line, bad := onParse(t, s)
		if err != ok || bad != ok || line != 0 || !same(back, l) {
			t.Fatalf("P23.2: %s is printed %q, %d, and parsed again it is %s, %d, %d", show(l), s, err, show(back), line, bad)
		}
		s = c.bendText(s)
		l, _, bad = onParse(t, s)
		if bad != ok {
			continue
		}
		if again, err := onPrint(t, l); again != s || err != ok {
			t.Fatalf("P23.2: %q is parsed %s, and printed again it is %q, %d", s, show(l), again, err)
		}
	}
}

// likeEvents are events much like each other, each unlike all the others.
func likeEvents() []api.Event {
	var l []api.Event
	texts := []string{"", "a", "b", "aa", "=", "%", "%3d", " ", "\n", "0", "1", "a=", "=a", "a b", "%20", "\xc3", "\xa9", "é", "#", "A", "%41"}
	for _, a := range texts {
		l = append(l, read(0, 1, a), write(0, 1, 1, pair(a, "")), answer(0, 1, rsOK, 1, bottom(a)))
		for _, b := range texts {
			l = append(l, read(0, 1, a, b), write(0, 1, 1, pair(a, b), pair("", "")), answer(0, 1, rsOK, 1, bottom(a), bottom(b)), answer(0, 1, rsOK, 1, version(a, 1, b)), answer(0, 1, rsOK, 1, version("", 1, a, b)), answer(0, 1, rsOK, 1, version("", 1, "", a, b)))
		}
	}
	for _, n := range []int{1, 2, 10, 11, 15} {
		l = append(l, read(n, 2), read(2, n+2), write(n, 2, 0), write(2, 2+n, 0), write(0, 1, api.ID(n)), answer(2, 2, rsOK, api.ID(n)), answer(n, 3, rsOK, 0), answer(3, n+3, rsOK, 0), answer(3, 2, rsOK, 0, version("a", api.ID(n), "a")))
	}
	for result := 1; result <= 6; result++ {
		l = append(l, answer(4, 4, result, 0))
	}
	return l
}

func TestTwoListsOfEvents(t *testing.T) {
	events := likeEvents()
	by := map[string]int{}
	for i, e := range events {
		s, err := onPrint(t, list(e))
		if err != ok {
			t.Fatalf("P23.1: Print of %s is %d", show(list(e)), err)
		}
		if at, there := by[s]; there {
			t.Fatalf("P23.2: %s and %s have the same text %q", show(list(events[at])), show(list(e)), s)
		}
		by[s] = i
	}
	// Equal ones from other memory, and with empty lists in the place of none, have the same text.
	for seed := range 3000 {
		c := newChance(seed)
		l := c.events(4)
		m := roomy(l)
		for i := range m {
			if len(m[i].Pairs) == 0 && c.oneIn(2) {
				m[i].Pairs = nil
			}
			if len(m[i].Keys) == 0 && c.oneIn(2) {
				m[i].Keys = nil
			}
		}
		a, _ := onPrint(t, l)
		b, err := history.Print(m)
		if a != b || err != ok {
			t.Fatalf("P23.2: equal lists have the texts %q and %q, %d", a, b, err)
		}
		other := c.events(4)
		if s, _ := onPrint(t, other); (s == a) != same(l, other) {
			t.Fatalf("P23.2: %s and %s have the texts %q and %q", show(l), show(other), a, s)
		}
	}
	// Lists of few events of few kinds: many are equal, more are not.
	few := list(read(0, 1), read(0, 1, ""), read(0, 1, "", ""), read(1, 1), write(0, 1, 1), answer(0, 1, rsOK, 1))
	texts := map[string][]api.Event{}
	upTo(few, 4, func(l []api.Event) {
		s, _ := onPrint(t, l)
		if was, there := texts[s]; there {
			t.Fatalf("P23.2: %s and %s have the same text %q", show(was), show(l), s)
		}
		texts[s] = slices.Clone(l)
	})
}

func TestBeginnings(t *testing.T) {
	for seed := range 3000 {
		c := newChance(seed)
		l := c.proper(c.Intn(40))
		for n := range len(l) + 1 {
			refusedAtEnd := n > 0 && l[n-1].Kind == evWrite && l[n-1].ID == 0
			if got := onProper(t, l[:n]); got == refusedAtEnd {
				t.Fatalf("P23.3: Proper of the first %d of %s is %v", n, show(l), got)
			}
		}
		for client := range 16 {
			own, err := onOf(t, l, client)
			if err != ok || !onProper(t, own) {
				t.Fatalf("P23.3: the events of client %d of %s, alone, are not proper: %s, %d", client, show(l), show(own), err)
			}
		}
	}
}

func TestLineByLine(t *testing.T) {
	for seed := range 5000 {
		c := newChance(seed)
		a, b := c.events(5), c.events(5)
		textA, _ := onPrint(t, a)
		textB, _ := onPrint(t, b)
		if s, err := onPrint(t, joined(a, b)); s != textA+textB || err != ok {
			t.Fatalf("P23.4: Print of %s and behind it %s is %q, %d", show(a), show(b), s, err)
		}
		if l, line, err := onParse(t, textA+textB); !same(l, joined(a, b)) || line != 0 || err != ok {
			t.Fatalf("P23.4: Parse of %q and behind it %q is %s, %d, %d", textA, textB, show(l), line, err)
		}
		whole := ""
		for i := range a {
			s, _ := onPrint(t, a[i:i+1])
			whole += s
		}
		if whole != textA || strings.Count(textA, "\n") != len(a) {
			t.Fatalf("P23.4: the lines of %s are %q, its text %q", show(a), whole, textA)
		}
	}
}

// richEvents have more than one of each list.
func richEvents() []api.Event {
	return list(
		write(0, 1, 65536, pair("a", "1"), pair("b", "2")), read(0, 2, "a", "b"), write(0, 3, 131072, pair("a", "1"), pair("b", "2")),
		answer(0, 2, rsOK, 0, version("a", 65536, "1", "a", "b"), version("b", 65536, "2", "a", "b")), read(0, 4, "a", "b"), answer(0, 4, rsOK, 0, version("a", 65536, "1", "a", "b"), version("b", 65536, "2", "a", "b")),
	)
}

// aList is one of the lists that events are made of: what is in it, without the lists in that, and a way to write over it and its spare room.
type aList struct {
	show func() string
	fill func()
}

// lists are all lists of a list of events.
func lists(l []api.Event) []aList {
	events := aList{func() string { return headsOf(l) }, func() { fill(l, markEvent) }}
	out := []aList{events}
	for _, e := range l {
		pairs, keys, versions := e.Pairs, e.Keys, e.Answer.Versions
		out = append(out,
			aList{func() string { return fmt.Sprintf("%q", pairs) }, func() { fill(pairs, markPair) }},
			textList(keys),
			aList{func() string { return versionHeads(versions) }, func() { fill(versions, markVersion) }},
		)
		for _, v := range versions {
			out = append(out, textList(v.Keys))
		}
	}
	return out
}

func textList(l []string) aList {
	return aList{func() string { return fmt.Sprintf("%q", l) }, func() { fill(l, markText) }}
}

func headsOf(l []api.Event) string {
	out := ""
	for _, e := range l {
		out += fmt.Sprintln(e.Kind, e.Client, e.Txn, e.ID, e.Answer.Txn, e.Answer.Result, e.Answer.ID)
	}
	return out
}

func versionHeads(l []api.Version) string {
	out := ""
	for _, v := range l {
		out += fmt.Sprintf("%q %d %q;", v.Key, v.ID, v.Value)
	}
	return out
}

// sharesNone holds that no two lists of what is told share memory: writing over one leaves all others, and what is told later.
func sharesNone(t *testing.T, name string, tell func() []api.Event) {
	t.Helper()
	for i := range lists(tell()) {
		told := lists(tell())
		var seen []string
		for _, one := range told {
			seen = append(seen, one.show())
		}
		told[i].fill()
		for j, one := range told {
			if j != i && one.show() != seen[j] {
				t.Errorf("P23.5: %s: writing over list %d changed list %d: %s, it was %s", name, i, j, one.show(), seen[j])
			}
		}
		if !same(tell(), richEvents()) {
			t.Errorf("P23.5: %s: writing over list %d changed what is told later: %s", name, i, show(tell()))
		}
	}
}

func TestMemory(t *testing.T) {
	l := richEvents()
	text, err := history.Print(l)
	if err != ok || !history.Proper(l) {
		t.Fatalf("the events are printed %q, %d", text, err)
	}
	sharesNone(t, "Parse", func() []api.Event { got, _, _ := history.Parse(text); return got })
	sharesNone(t, "Of", func() []api.Event { got, _ := history.Of(l, 0); return got })
	if !same(l, richEvents()) {
		t.Errorf("P23.5: what was handed in changed: %s", show(l))
	}
	// Told events are not those handed in, whichever of both is written over.
	handed := roomy(l)
	told, _ := history.Of(handed, 0)
	spoil(handed)
	if !same(told, richEvents()) {
		t.Errorf("P23.5: Of told what was handed in: %s", show(told))
	}
	handed = roomy(l)
	told, _ = history.Of(handed, 0)
	spoil(told)
	if !isRoomy(handed, richEvents()) {
		t.Errorf("P23.5: writing over what Of told changed what was handed in: %s", show(handed))
	}
	// One backing list behind many events, as a caller may have it.
	keys := []string{"a", "b", "c", "d"}
	shared := list(read(0, 1, "x"), read(0, 2, "x"))
	shared[0].Keys, shared[1].Keys = keys[:2], keys[:4]
	told, _ = history.Of(shared, 0)
	fill(told[0].Keys, "spoilt")
	if !slices.Equal(told[1].Keys, []string{"a", "b", "c", "d"}) || !slices.Equal(keys, []string{"a", "b", "c", "d"}) {
		t.Errorf("P23.5: the lists told share memory: %q, %q", told[1].Keys, keys)
	}
}

// What is told doesn't hold on to the memory of what was handed in.
func TestPiecesAreNotKept(t *testing.T) {
	const size = 1 << 20
	var kept [][]api.Event
	before := inUse()
	for i := range 24 {
		text := fmt.Sprintf("0 1 read key%d\n", i) + "0 2 write 65536 a=1\n0 3 ok 0 a=5=v=k\n"
		long := text + "0 1 read " + strings.Repeat("x", size) + "\n"
		l, _, err := history.Parse(long)
		if err != ok || len(l) != 4 {
			t.Fatalf("P23.1: Parse of a long text is %d events, %d", len(l), err)
		}
		kept = append(kept, slices.Clone(l[:3]))
		whole := strings.Repeat("y", size)
		piece := list(read(0, 1, whole[:5]), write(0, 2, 5, pair(whole[5:7], whole[7:9])), answer(0, 3, rsOK, 0, version(whole[1:2], 5, whole[2:3], whole[3:4])))
		own, _ := history.Of(piece, 0)
		kept = append(kept, own)
	}
	if now := inUse(); now > before+4*size {
		t.Errorf("P23.5: what was told keeps %d bytes of what was handed in", now-before)
	}
	if len(kept) != 48 || !same(kept[0][:1], list(read(0, 1, "key0"))) {
		t.Errorf("P23.5: what was told is %s", show(kept[0]))
	}
}

// Nothing is kept from call to call: neither is what was called ahead, nor is memory.
func TestNothingIsKept(t *testing.T) {
	l := richEvents()
	text, _ := history.Print(l)
	bad := joined(l, list(api.Event{}))
	for range 50 {
		history.Print(bad)
		history.Proper(l[1:])
		history.Parse(text + "x")
		history.Of(l, 77)
		prints(t, l)
		parses(t, text)
		if !isProper(t, l) {
			t.Fatalf("P23.1: Proper of %s is false, at a later call", show(l))
		}
	}
	before := inUse()
	for range 300 {
		big := make([]api.Event, 0, 2000)
		for i := range 2000 {
			big = append(big, read(0, i+1, "a", "b"))
		}
		s, _ := history.Print(big)
		history.Parse(s)
		history.Proper(big)
		history.Of(big, 0)
	}
	if now := inUse(); now > before+1<<20 {
		t.Errorf("P23.5: %d bytes are kept behind the calls", now-before)
	}
}

func TestManyAtOnce(t *testing.T) {
	l := richEvents()
	text, _ := modelPrint(l)
	var wait sync.WaitGroup
	for range 16 {
		wait.Add(1)
		go func() {
			defer wait.Done()
			for range 200 {
				s, err := history.Print(l)
				back, line, bad := history.Parse(text)
				own, no := history.Of(l, 0)
				if s != text || err != ok || !same(back, l) || line != 0 || bad != ok || !same(own, l) || no != ok || !history.Proper(l) {
					t.Error("P23.1: a call among others answers otherwise")
					return
				}
			}
		}()
	}
	wait.Wait()
}

// Many events, wide ones and long texts: each call ends, in time that grows as they do.
func TestLongLists(t *testing.T) {
	const many = 200000
	var l []api.Event
	for i := range many {
		l = append(l, write(0, i+1, api.ID(i+1)*65536, pair("a", "1")))
	}
	for i := range many {
		l = append(l, answer(0, many-i, rsOK, api.ID(many-i)*65536))
	}
	wide, told := read(1, 1), answer(1, 1, rsOK, 0)
	for i := range many {
		key := fmt.Sprint("k", i)
		wide.Keys = append(wide.Keys, key)
		told.Answer.Versions = append(told.Answer.Versions, version(key, 9, "v", "a", "b"))
	}
	long := read(2, 1, strings.Repeat("%\x00", 1<<19))
	l = append(l, wide, told, long)
	if !history.Proper(l) {
		t.Error("P23.1: Proper of a long list is false")
	}
	s, err := history.Print(l)
	back, line, bad := history.Parse(s)
	if err != ok || bad != ok || line != 0 || !same(back, l) {
		t.Errorf("P23.2: a long list of %d events is parsed again as %d, %d, %d, %d", len(l), len(back), line, err, bad)
	}
	if _, line, bad = history.Parse(s + "x"); line != len(l)+1 || bad != errBad {
		t.Errorf("P23.1: Parse of a long text with a fault at its end is %d, %d", line, bad)
	}
	if own, err := history.Of(l, 0); len(own) != 2*many || err != ok {
		t.Errorf("P23.1: Of of a long list is %d events, %d", len(own), err)
	}
	if history.Proper(append(l, answer(2, math.MaxInt, rsOK, 0))) {
		t.Error("P23.1: Proper of a long list with an answer to nothing is true")
	}
}
