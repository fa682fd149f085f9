package rampart_test

import (
	"fmt"
	"slices"
	"strings"
	"testing"
)

// What each command does and tells.

func ten(line string) []string { return slices.Repeat([]string{line}, 10) }

// DOC.md's ten examples. Of "cluster 4 2 10 0" partition 0 has a, partition 1 has b.

func TestExampleWriteAndRead(t *testing.T) {
	tells(t, small+" => ok",
		"write 0 a=1 b=2 => ok 1",
		"flight => ok 2; prepare c0 p0 1; prepare c0 p1 2",
		"run 1000 => ok 8",
		"flight => ok 0",
		"answers => ok 1; 0 1 ok id 65536",
		"read 1 a b => ok 1",
		"run 1000 => ok 4",
		"answers => ok 1; 1 1 ok a 65536 1 b 65536 2",
		"read 1 z => ok 2",
		"run 1000 => ok 2",
		"answers => ok 1; 1 2 ok z 0 -",
		"history => ok 6; 0 1 write 65536 a=1 b=2; 0 1 ok id 65536; 1 1 read a b; 1 1 ok a 65536 1 b 65536 2; 1 2 read z; 1 2 ok z 0 -")
}

func TestExampleInvalid(t *testing.T) {
	tells(t, small, "write 0 a=1 a=2 => ok 1", "answers => ok 1; 0 1 invalid", "flight => ok 0")
	tells(t, small, "read 0 => ok 1", "answers => ok 1; 0 1 invalid", "flight => ok 0", "history => ok 2; 0 1 read; 0 1 invalid")
	tells(t, small, "write 0 => ok 1", "answers => ok 1; 0 1 invalid", "read 0 a a => ok 2", "answers => ok 1; 0 2 invalid", "history => ok 4; 0 1 write 0; 0 1 invalid; 0 2 read a a; 0 2 invalid")
}

func TestExampleGive(t *testing.T) {
	tells(t, small, "write 0 a=1 b=2", "give 0 1 => ok", "answers => ok 1; 0 1 aborted id 65536", "run 1000 => ok 4", "read 1 a b", "run 1000 => ok 4", "answers => ok 1; 1 1 ok a 0 - b 0 -", "give 0 1 => no", "give 0 2 => no", "give 1 1 => no", "give 2 1 => no")
	tells(t, small, "write 0 a=1 b=2", "run 5 => ok 5", "give 0 1 => ok", "answers => ok 1; 0 1 unknown id 65536", "read 1 a", "give 1 1 => ok", "answers => ok 1; 1 1 aborted")
}

func TestExampleFetched(t *testing.T) {
	tells(t, small, "write 0 a=1 b=2", "deliver 0", "deliver 0", "deliver 0", "deliver 0 => ok",
		"flight => ok 2; commit c0 p0 3; commit c0 p1 4", "lose 1 => ok", "deliver 0 => ok", "flight => ok 1; committed p0 c0 3", "lose 0",
		"read 1 b a => ok 1", "flight => ok 2; latest c1 p0 1; latest c1 p1 2", "deliver 0", "deliver 0", "flight => ok 2; versions p0 c1 1; versions p1 c1 2",
		"deliver 1", "deliver 0", "flight => ok 1; byid c1 p1 3", "answers => ok 0", "run 1000 => ok 2", "answers => ok 1; 1 1 ok b 65536 2 a 65536 1",
		"tick 0 => ok", "flight => ok 2; commit c0 p0 3; commit c0 p1 4", "run 1000 => ok 4", "answers => ok 1; 0 1 ok id 65536")
}

func TestExampleCrash(t *testing.T) {
	tells(t, small, "write 0 a=1 b=2", "run 1000", "part 0", "part 0", "state 0 => ok up 2", "crash 0 0 => ok", "state 0 => ok down", "crash 0 0 => no", "part 0 => no",
		"restart 0 => ok", "restart 0 => no", "state 0 => ok up 0", "read 1 a b", "run 1000", "answers => ok 2; 0 1 ok id 65536; 1 1 ok a 65536 1 b 65536 2")
}

func TestExampleFull(t *testing.T) {
	tells(t, small, "full 1 1 => ok", "write 0 a=1 b=2", "deliver 1", "flight => ok 2; prepare c0 p0 1; nack p1 c0 2", "run 1000", "answers => ok 0", "tick 0 => ok", "flight => ok 1; prepare c0 p1 2", "run 1000", "answers => ok 1; 0 1 ok id 65536")
}

func TestExampleStop(t *testing.T) {
	tells(t, small, "write 0 a=1 b=2", "deliver 0", "deliver 0", "stop 0 => ok", "stop 0 => no", "write 0 a=9 => no", "read 0 a => no", "tick 0 => no", "give 0 1 => no", "run 1000 => ok 2",
		"read 1 a b => ok 1", "run 1000", "answers => ok 1; 1 1 ok a 0 - b 0 -", "write 1 a=3 => ok 2", "run 1000", "read 1 b a => ok 3", "run 1000", "answers => ok 2; 1 2 ok id 65537; 1 3 ok b 0 - a 65537 3")
}

func TestExampleStale(t *testing.T) {
	script := []string{
		small, "write 0 a=1 b=2", "run 1000", "answers",
		"write 0 a=3 b=4", "run 4 => ok 4", "deliver 0 => ok", // committed for a alone
		"read 1 a b => ok 1", "flight => ok 4; commit c0 p1 8; committed p0 c0 7; latest c1 p0 1; latest c1 p1 2", "deliver 2", "deliver 2", "deliver 2", "deliver 2",
		"flight => ok 3; commit c0 p1 8; committed p0 c0 7; byid c1 p1 3", "deliver 0 => ok", "deliver 0 => ok", "deliver 1", "answers => ok 1; 0 2 ok id 131072",
		"write 0 b=5", "flight => ok 2; byid c1 p1 3; prepare c0 p1 9", "deliver 1", "deliver 1", "deliver 1", "deliver 1", "answers => ok 1; 0 3 ok id 196608",
	}
	stale := slices.Concat(script, ten("part 1 => ok"), []string{"state 1 => ok up 10", "run 1000 => ok 2", "answers => ok 1; 1 1 stale"})
	tells(t, stale...)
	fresh := slices.Concat(script, ten("part 1 => ok")[1:], []string{"state 1 => ok up 9", "run 1000 => ok 2", "answers => ok 1; 1 1 ok a 131072 3 b 131072 4"})
	tells(t, fresh...)
}

// The chapter's own.
func TestExamplesOfTheChapter(t *testing.T) {
	s := tells(t, small)
	for _, line := range []string{"run", "tick", "arm 0 1"} {
		isNone(t, s, line)
	}
	tells(t, small, "write 0 => ok 1", "read 0 => ok 2", "run 1000 => ok 0")
}

// A disk that fails within a call of a partition.
func TestArm(t *testing.T) {
	tells(t, small, "arm 0 0 0 => ok", "write 0 a=1 => ok 1", "run 10 => ok 1", "state 0 => ok down", "flight => ok 0", "restart 0 => ok", "tick 0 => ok", "run 10 => ok 4", "answers => ok 1; 0 1 ok id 65536")
	// What stays of the tail is a whole record: the prepare is there, and isn't asked for again.
	tells(t, small, "arm 0 1 1000 => ok", "write 0 a=1 => ok 1", "run 10 => ok 1", "state 0 => ok down", "restart 0 => ok", "arm 4 0 0 => no", "arm 3 0 0 => ok", "full 4 0 => no", "full 3 7 => ok")
}

// commandsOf are lines of each command.
func commandsOf() []string {
	var out []string
	for _, word := range all()[1:] {
		out = append(out, wholeLine(word), withNumbers(word, strings.Fields(strings.Repeat("0 ", numbersOf()[word]))...))
	}
	return append(out, "write 0 a=1 b=2", "read 1 a b")
}

func TestNoCluster(t *testing.T) {
	s := newShell(t)
	for range 2 {
		for _, line := range commandsOf() {
			does(t, s, line, "no\n", ok)
		}
		does(t, s, "", "", ok)
		does(t, s, "frob", "", errLine)
		for _, line := range []string{"cluster 0 1 1 0", "cluster 65 1 1 0", "cluster 1 0 1 0", "cluster 1 17 1 0", "cluster 1 1 1048577 0", "cluster 1 1 1 0 first=281474976710656", "cluster 999999999999 1 1 0", "cluster 4294967297 1 1 0", "cluster 1 65537 1 0", "cluster 1 1 999999999999 0"} {
			does(t, s, line, "no 1\n", ok)
		}
	}
	goesOn(t, s, "cluster 1 1 0 0 => ok", "flight => ok 0")
	for _, line := range []string{"cluster 64 16 1048576 999999999999 first=281474976710655 => ok", "cluster 01 00001 000000000000 0 first=00 => ok"} {
		goesOn(t, s, line, "history => ok 0")
	}
}

// Behind a second cluster nothing is left of the first one; behind one that is refused it is all there.
func TestSecondCluster(t *testing.T) {
	s := tells(t, small, "write 0 a=1 b=2", "read 1 a", "give 1 1", "answers", "part 0", "crash 1 0", "stop 1")
	ahead := told(s)
	goesOn(t, s, "cluster 0 2 10 0 => no 1", "cluster 1 1 10 0 first=281474976710656 => no 1")
	if told(s) != ahead {
		t.Errorf("P25.1: a cluster that was refused changed the one that was there")
	}
	goesOn(t, s, "answers => ok 0", "write 1 a=1 => no", "write 0 a=5 => ok 2", "give 0 2", "answers => ok 1; 0 2 aborted id 131072")

	goesOn(t, s, "cluster 2 3 10 0 first=5 => ok", "flight => ok 0", "history => ok 0", "answers => ok 0", "state 0 => ok up 0", "state 1 => ok up 0", "state 2 => no", "run 5 => ok 0",
		"read 1 a => ok 1", "give 1 1 => ok", "answers => ok 1; 1 1 aborted", "write 2 a=1 => ok 1", "read 2 a => ok 2", "write 0 a=1 => ok 1", "history => ok 5; 1 1 read a; 1 1 aborted; 2 1 write 327682 a=1; 2 2 read a; 0 1 write 327680 a=1")
	goesOn(t, s, "cluster 1 1 10 0 => ok", "write 1 a=1 => no", "state 1 => no", "write 0 => ok 1", "answers => ok 1; 0 1 invalid")
	// Fewer events than answers told of the one ahead: all of them are new.
	goesOn(t, s, "cluster 1 1 10 0 => ok", "write 0 => ok 1", "write 0 => ok 2", "answers => ok 2; 0 1 invalid; 0 2 invalid", "cluster 1 1 10 0 => ok", "read 0 => ok 1", "answers => ok 1; 0 1 invalid", "answers => ok 0")
}

func TestClosed(t *testing.T) {
	for _, ahead := range [][]string{nil, {"cluster 0 0 0 0 => no 1"}, {small, "write 0 a=1 b=2", "write 0"}, {small, "cluster 1 1 1 1", "read 0"}} {
		s := tells(t, ahead...)
		for range 3 {
			s.Close()
			for _, line := range append(commandsOf(), small, "cluster 0 0 0 0", "cluster 1 1 1 0 first=1") {
				does(t, s, line, "", errArg)
				does(t, s, "\t"+line+" # closed", "", errArg)
			}
			for _, line := range []string{"", " \t", "# flight"} {
				does(t, s, line, "", ok)
			}
			for _, line := range []string{"frob", "run", "tick 0 1", "flight\n", "#\n", strings.Repeat("#", maxLine+1)} {
				does(t, s, line, "", errLine)
			}
		}
	}
}

func TestRun(t *testing.T) {
	s := tells(t, small, "run 0 => ok 0", "run 1 => ok 0", "write 0 a=1 b=2", "run 0 => ok 0", "flight => ok 2; prepare c0 p0 1; prepare c0 p1 2",
		"run 1 => ok 1", "flight => ok 2; prepare c0 p1 2; prepared p0 c0 1", "run 2 => ok 2", "flight => ok 1; prepared p1 c0 2", "run 999999999999 => ok 5", "flight => ok 0", "run 999999999999 => ok 0")
	// Frames to what is down or stopped are delivered too, and lost.
	goesOn(t, s, "write 0 a=3 b=4", "crash 0 0", "stop 0", "run 1000 => ok 3", "read 1 a", "twin 0", "twin 0", "run 2 => ok 2", "run 1000 => ok 1")
	goesOn(t, s, "restart 0", "tick 1", "twin 0", "run 3 => ok 3", "run 1 => ok 1", "run 1 => ok 0", "answers => ok 2; 0 1 ok id 65536; 1 1 ok a 65536 1")
}

func TestAnswersAreToldOnce(t *testing.T) {
	s := tells(t, small, "answers => ok 0", "write 0 a=1", "answers => ok 0", "write 0 => ok 2", "write 1 b=1 b=1 => ok 1", "answers => ok 2; 0 2 invalid; 1 1 invalid", "answers => ok 0",
		"run 3", "answers => ok 0", "run 1", "history => ok 6; 0 1 write 65536 a=1; 0 2 write 0; 0 2 invalid; 1 1 write 0 b=1 b=1; 1 1 invalid; 0 1 ok id 65536",
		"answers => ok 1; 0 1 ok id 65536", "answers => ok 0", "answers => ok 0")
	goesOn(t, s, "read 1 a", "read 0 b", "drain", "flight => ok 0", "answers => ok 2; 1 2 ok a 65536 1; 0 3 ok b 0 -", "answers => ok 0", "drain", "answers => ok 0", "read 0 a", "give 0 4", "stop 0", "crash 0 0", "answers => ok 1; 0 4 aborted", "answers => ok 0")
}

func TestDrain(t *testing.T) {
	s := tells(t, "cluster 4 3 10 0", "drain => ok", "history => ok 0", "write 0 a=1 b=2 c=3 d=4", "read 1 a b", "read 2 a", "stop 2")
	goesOn(t, s, "crash 0 0", "full 1 1000", "arm 1 3 0", "arm 2 1 0", "arm 3 0 0", "lose 0", "run 3", "state 3 => ok down", "drain => ok")
	for n := range 4 {
		goesOn(t, s, fmt.Sprintf("state %d => ok up 0", n))
	}
	goesOn(t, s, "flight => ok 0", "answers => ok 2; 1 1 ok a 0 - b 0 -; 0 1 ok id 65536", "write 1 a=2 b=3 c=4 d=5", "run 1000 => ok 16", "answers => ok 1; 1 2 ok id 65537")

	// No partition has a tick, each client one.
	s = tells(t, small, "part 0", "write 0 a=1", "lose 0", "drain", "flight => ok 0", "answers => ok 1; 0 1 ok id 65536", "state 0 => ok up 1", "state 1 => ok up 0")
	goesOn(t, s, "write 0 a=1", "twin 0", "run 1", "lose 1", "drain", "answers => ok 1; 0 2 ok id 131072", "flight => ok 0")
	goesOn(t, s, "read 1 a", "give 1 1", "answers", "drain => ok", "flight => ok 0", "answers => ok 0")
	// Behind it the disks are armed with nothing, and refuse nothing.
	goesOn(t, s, "arm 0 0 0", "arm 1 0 0", "full 0 1", "drain", "write 0 a=1 b=1", "run 1000 => ok 8", "answers => ok 1; 0 3 ok id 196608")
}

// A read of two rounds takes four turns, a write too: no fewer will do.
func TestDrainHasFourTurns(t *testing.T) {
	s := tells(t, small, "write 0 a=1 b=2", "run 4", "deliver 0", "flight => ok 2; commit c0 p1 4; committed p0 c0 3", "lose 0", "lose 0", "stop 0", "read 1 a b", "drain", "flight => ok 0", "answers => ok 1; 1 1 ok a 65536 1 b 65536 2")
	goesOn(t, s, "cluster 4 1 10 0", "write 0 a=1", "crash 0 0", "drain", "answers => ok 1; 0 1 ok id 65536", "flight => ok 0")
}

func TestFlight(t *testing.T) {
	s := tells(t, "cluster 4 16 10 0", "flight => ok 0", "write 15 b=1 a=2 d=3 c=4", "read 7 d")
	all := "flight => ok 5; prepare c15 p0 1; prepare c15 p1 2; prepare c15 p2 3; prepare c15 p3 4; latest c7 p3 1"
	goesOn(t, s, all, all)
	goesOn(t, s, "twin 4", "lose 1", "flight => ok 5; prepare c15 p0 1; prepare c15 p2 3; prepare c15 p3 4; latest c7 p3 1; latest c7 p3 1", "deliver 3", "deliver 5 => no", "deliver 1", "flight => ok 5; prepare c15 p0 1; prepare c15 p3 4; latest c7 p3 1; versions p3 c7 1; prepared p2 c15 3")
	goesOn(t, s, "lose 5 => no", "twin 5 => no", "twin 999999999999 => no", "deliver 999999999999 => no", "lose 999999999999 => no", "lose 4 => ok", "flight => ok 4; prepare c15 p0 1; prepare c15 p3 4; latest c7 p3 1; versions p3 c7 1")
	goesOn(t, s, "run 1000 => ok 7", "tick 15", "flight => ok 2; prepare c15 p1 2; prepare c15 p2 3")
}

// Each kind of message, by its word.
func TestKinds(t *testing.T) {
	tells(t, "cluster 1 2 10 0", "full 0 1", "write 1 a=1", "flight => ok 1; prepare c1 p0 1", "run 1", "flight => ok 1; nack p0 c1 1", "run 1", "tick 1", "run 1", "flight => ok 1; prepared p0 c1 1", "run 1", "flight => ok 1; commit c1 p0 2", "run 1", "flight => ok 1; committed p0 c1 2",
		"run 1", "read 0 a", "flight => ok 1; latest c0 p0 1", "run 1", "flight => ok 1; versions p0 c0 1", "run 1", "flight => ok 0")
	tells(t, "cluster 4 2 10 0", "write 0 a=1 b=2", "run 5", "read 1 a b", "lose 0", "lose 0", "run 4", "flight => ok 1; byid c1 p1 3", "run 1", "flight => ok 1; versions p1 c1 3")
}

func TestState(t *testing.T) {
	s := tells(t, "cluster 3 1 10 0")
	for n := range 3 {
		goesOn(t, s, fmt.Sprintf("state %d => ok up 0", n), fmt.Sprintf("state 00%d => ok up 0", n))
	}
	goesOn(t, s, "state 3 => no", "state 64 => no", "state 65536 => no", "state 4294967296 => no", "state 999999999999 => no")
	for n := 1; n < 13; n++ {
		goesOn(t, s, "part 1 => ok", fmt.Sprintf("state 1 => ok up %d", n), "state 0 => ok up 0", "state 2 => ok up 0")
	}
	goesOn(t, s, "crash 1 5 => ok", "state 1 => ok down", "state 1 => ok down", "part 1 => no", "crash 1 0 => no", "restart 1 => ok", "state 1 => ok up 0", "part 1", "state 1 => ok up 1", "crash 2 0", "state 2 => ok down", "state 0 => ok up 0", "part 3 => no", "restart 3 => no", "crash 3 0 => no")
}
