package history_test

import (
	"runtime"
	"slices"
	"strings"
	"testing"

	"rampart/api"
	"rampart/history"
)

// The calls, each with what is handed in marked, watched and spoilt, and what is told copied and spoilt.

func onPrint(t *testing.T, l []api.Event) (string, api.Errno) {
	t.Helper()
	handed := roomy(l)
	s, err := history.Print(handed)
	watch(t, "Print", handed, l)
	return s, err
}

func onParse(t *testing.T, s string) ([]api.Event, int, api.Errno) {
	t.Helper()
	told, line, err := history.Parse(s)
	return keep(told), line, err
}

func onProper(t *testing.T, l []api.Event) bool {
	t.Helper()
	handed := roomy(l)
	proper := history.Proper(handed)
	watch(t, "Proper", handed, l)
	return proper
}

func onOf(t *testing.T, l []api.Event, client int) ([]api.Event, api.Errno) {
	t.Helper()
	handed := roomy(l)
	told, err := history.Of(handed, client)
	watch(t, "Of", handed, l)
	return keep(told), err
}

func watch(t *testing.T, call string, handed, l []api.Event) {
	t.Helper()
	if !isRoomy(handed, l) {
		t.Fatalf("P23.5: %s changed what was handed in: %s, it was %s", call, show(handed), show(l))
	}
	spoil(handed)
}

// keep is a copy of what was told, which is spoilt.
func keep(told []api.Event) []api.Event {
	out := roomy(told)
	spoil(told)
	return out
}

// prints holds Print of a list against the model.
func prints(t *testing.T, l []api.Event) {
	t.Helper()
	s, err := onPrint(t, l)
	want, wantErr := modelPrint(l)
	if s != want || err != wantErr {
		t.Fatalf("P23.1: Print of %s is %q, %d; it should be %q, %d", show(l), s, err, want, wantErr)
	}
}

// parses holds Parse of a text against the model.
func parses(t *testing.T, s string) {
	t.Helper()
	l, line, err := onParse(t, s)
	want, wantLine, wantErr := modelParse(s)
	if !same(l, want) || line != wantLine || err != wantErr {
		t.Fatalf("P23.1: Parse of %q is %s, %d, %d; it should be %s, %d, %d", s, show(l), line, err, show(want), wantLine, wantErr)
	}
}

// isProper holds Proper of a list against the model, and tells its answer.
func isProper(t *testing.T, l []api.Event) bool {
	t.Helper()
	got, want := onProper(t, l), modelProper(l)
	if got != want {
		t.Fatalf("P23.1: Proper of %s is %v; it should be %v", show(l), got, want)
	}
	return got
}

// are holds Of of a list against the model.
func are(t *testing.T, l []api.Event, client int) {
	t.Helper()
	got, err := onOf(t, l, client)
	want, wantErr := modelOf(l, client)
	if !same(got, want) || err != wantErr {
		t.Fatalf("P23.1: Of of %s and %d is %s, %d; it should be %s, %d", show(l), client, show(got), err, show(want), wantErr)
	}
}

// refused holds that Parse finds the fault in that line, and tells nothing else.
func refused(t *testing.T, s string, at int) {
	t.Helper()
	l, line, err := onParse(t, s)
	if len(l) != 0 || line != at || err != errBad {
		t.Errorf("P23.1: Parse of %q is %s, %d, %d; it should be none, %d, %d", s, show(l), line, err, at, errBad)
	}
	parses(t, s)
}

// taken holds that a text is that of a list, both ways.
func taken(t *testing.T, l []api.Event, text string) {
	t.Helper()
	if s, err := onPrint(t, l); s != text || err != ok {
		t.Errorf("P23.1: Print of %s is %q, %d; it should be %q, 0", show(l), s, err, text)
	}
	if got, line, err := onParse(t, text); !same(got, l) || line != 0 || err != ok {
		t.Errorf("P23.1: Parse of %q is %s, %d, %d; it should be %s, 0, 0", text, show(got), line, err, show(l))
	}
	prints(t, l)
	parses(t, text)
}

// without is a list but for one of its events.
func without(l []api.Event, at int) []api.Event { return slices.Delete(slices.Clone(l), at, at+1) }

// joined is one list behind the other, in new memory.
func joined(l ...[]api.Event) []api.Event { return slices.Concat(l...) }

// line is a line of those parts.
func line(parts ...string) string { return strings.Join(parts, " ") + "\n" }

func inUse() uint64 {
	var m runtime.MemStats
	runtime.GC()
	runtime.GC()
	runtime.ReadMemStats(&m)
	return m.HeapAlloc
}
