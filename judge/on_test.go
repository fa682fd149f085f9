package judge_test

import (
	"slices"
	"testing"

	"rampart/api"
	"rampart/judge"
)

// onJudge calls Judge, with what is handed in marked, watched and spoilt, and what is told copied and spoilt.
func onJudge(t *testing.T, h []api.Event) ([]judge.Finding, api.Errno) {
	t.Helper()
	handed := roomy(h)
	found, err := judge.Judge(handed)
	if !same(handed, roomy(h)) {
		t.Fatalf("P24.5: Judge changed what was handed in: %s, it was %s", show(handed), show(h))
	}
	spoil(handed)
	out := roomy(found)
	spoil(found)
	return out, err
}

// judges holds Judge of a history against the model, and tells its findings.
func judges(t *testing.T, h []api.Event) []judge.Finding {
	t.Helper()
	found, err := onJudge(t, h)
	want, wantErr := modelJudge(h)
	if !slices.Equal(found, want) || err != wantErr {
		t.Fatalf("P24.1: Judge of %s is %q, %d; it should be %q, %d", show(h), lines(found), err, lines(want), wantErr)
	}
	return found
}

// finds holds Judge of a history's lines against those of its findings, said outright.
func finds(t *testing.T, h, want string) {
	t.Helper()
	found, err := onJudge(t, events(t, h))
	if lines(found) != want || err != ok {
		t.Errorf("P24.1: Judge of %s is %q, %d; it should be %q, 0", h, lines(found), err, want)
	}
	judges(t, events(t, h))
}

// refused holds that Judge takes a list for none, and tells nothing else.
func refused(t *testing.T, h []api.Event) {
	t.Helper()
	if found, err := onJudge(t, h); len(found) != 0 || err != errArg {
		t.Errorf("P24.1: Judge of %s is %q, %d; it should be none, %d", show(h), lines(found), err, errArg)
	}
}

// tells holds Tell of a finding against the text that is said outright, and against the model.
func tells(t *testing.T, f judge.Finding, want string) {
	t.Helper()
	if got := judge.Tell(f); got != want {
		t.Errorf("P24.1: Tell(%+v) is %q; it should be %q", f, got, want)
	}
	if modelTell(f) != want {
		t.Errorf("the model tells %q of %+v; it should be %q", modelTell(f), f, want)
	}
}
