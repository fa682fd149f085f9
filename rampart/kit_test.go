package rampart_test

import (
	"fmt"
	"reflect"
	"slices"
	"strings"
	"testing"

	"rampart/api"
	"rampart/rampart"
)

// The chapters' numbers, not api's and rampart's.
const (
	ok      = api.Errno(0)
	errArg  = api.Errno(1)
	errLine = api.Errno(250)

	stWrite   = 1
	stRead    = 2
	stTick    = 3
	stStop    = 4
	stGive    = 5
	stDeliver = 6
	stLose    = 7
	stTwin    = 8
	stPart    = 9
	stCrash   = 10
	stRestart = 11
	stFull    = 12
	stArm     = 13

	evWrite  = 1
	evRead   = 2
	evAnswer = 3

	maxText    = 262144
	maxLines   = 4096
	maxLine    = 65536
	maxParts   = 64
	maxClients = 16
	maxRetain  = 1 << 20
	maxSeq     = 1<<48 - 1
	greatest   = api.ID(1<<64 - 1)
)

// numbersOf is how many numbers each command must have.
func numbersOf() map[string]int {
	return map[string]int{
		"cluster": 4, "write": 1, "read": 1, "tick": 1, "stop": 1, "give": 2, "deliver": 1, "lose": 1, "twin": 1, "part": 1, "crash": 2, "restart": 1,
		"full": 2, "arm": 3, "run": 1, "drain": 0, "flight": 0, "answers": 0, "history": 0, "state": 1,
	}
}

// all are the commands' words, in the order of the table.
func all() []string {
	return strings.Fields("cluster write read tick stop give deliver lose twin part crash restart full arm run drain flight answers history state")
}

// isStep tells which commands are steps.
func isStep(word string) bool {
	return strings.Contains(" write read tick stop give deliver lose twin part crash restart full arm ", " "+word+" ")
}

// withNumbers is a command with these numbers.
func withNumbers(word string, numbers ...string) string {
	return strings.Join(append([]string{word}, numbers...), " ")
}

// small is the cluster of DOC.md's examples.
const small = "cluster 4 2 10 0"

func pair(key, value string) api.Pair { return api.Pair{Key: key, Value: value} }

func write(client, txn int, id api.ID, pairs ...api.Pair) api.Event {
	return api.Event{Kind: evWrite, Client: client, Txn: txn, ID: id, Pairs: pairs}
}

func read(client, txn int, keys ...string) api.Event {
	return api.Event{Kind: evRead, Client: client, Txn: txn, Keys: keys}
}

func answer(client, txn, result int, id api.ID, versions ...api.Version) api.Event {
	return api.Event{Kind: evAnswer, Client: client, Txn: txn, Answer: api.Answer{Txn: txn, Result: result, ID: id, Versions: versions}}
}

func version(key string, id api.ID, value string, keys ...string) api.Version {
	return api.Version{Key: key, ID: id, Value: value, Keys: keys}
}

// newShell is a shell that is closed behind the test.
func newShell(t *testing.T) *rampart.Shell {
	t.Helper()
	s := rampart.New()
	if s == nil {
		t.Fatal("P25.1: New has no shell")
	}
	t.Cleanup(s.Close)
	return s
}

// short is a text for a message.
func short(s string) string {
	if len(s) > 600 {
		return fmt.Sprintf("%q.. (%d bytes)", s[:600], len(s))
	}
	return fmt.Sprintf("%q", s)
}

// does holds what a line tells against what is said outright.
func does(t *testing.T, s *rampart.Shell, line, want string, wantErr api.Errno) {
	t.Helper()
	if got, err := s.Do(line); got != want || err != wantErr {
		t.Errorf("P25.1: Do(%s) is %s, %d; it should be %s, %d", short(line), short(got), int(err), short(want), int(wantErr))
	}
}

// tells does a script's lines in a new shell. Behind " => " stands what a line tells, its lines parted by "; "; without it the line must tell what begins with ok.
func tells(t *testing.T, script ...string) *rampart.Shell {
	t.Helper()
	s := newShell(t)
	goesOn(t, s, script...)
	return s
}

func goesOn(t *testing.T, s *rampart.Shell, script ...string) {
	t.Helper()
	for i, line := range script {
		do, want, has := strings.Cut(line, " => ")
		got, err := s.Do(do)
		want = strings.ReplaceAll(want, "; ", "\n") + "\n"
		if err != ok || has && got != want || !has && !strings.HasPrefix(got, "ok") {
			t.Fatalf("P25.1: the line %d of %s, %q, tells %s, %d; it should be %s, 0", i+1, short(strings.Join(script, "\n")), do, short(got), int(err), short(want))
		}
	}
}

// told is all that a shell tells of its cluster. (answers isn't asked: it would change what answers tells then.)
func told(s *rampart.Shell) string {
	var b strings.Builder
	lines := []string{"flight", "history"}
	for n := range maxParts + 1 {
		lines = append(lines, fmt.Sprint("state ", n))
	}
	for _, line := range lines {
		text, err := s.Do(line)
		fmt.Fprintln(&b, text, int(err))
	}
	return b.String()
}

// isNone holds that a line is taken for no command, by each call, and changes nothing.
func isNone(t *testing.T, s *rampart.Shell, line string) {
	t.Helper()
	ahead := told(s)
	does(t, s, line, "", errLine)
	if told(s) != ahead {
		t.Errorf("P25.3: %s, which is no command, changed what the shell tells", short(line))
	}
	if step, is := rampart.Step(line); is || !reflect.DeepEqual(step, api.Step{}) {
		t.Errorf("P25.1: Step(%s) is %+v, %t; it should be none", short(line), step, is)
	}
	if strings.Contains(line, "\n") {
		return // as a script it is others
	}
	if n, err := rampart.Check("drain\n" + line + "\n"); n != 2 || err != errLine {
		t.Errorf("P25.1: Check of drain and %s is %d, %d; it should be 2, 250", short(line), n, int(err))
	}
	if text, err := rampart.Play("drain\n" + line + "\n"); text != "" || err != errLine {
		t.Errorf("P25.1: Play of drain and %s is %s, %d; it should be nothing, 250", short(line), short(text), int(err))
	}
}

// isCommand holds that a line is a command, whatever it tells.
func isCommand(t *testing.T, line string) {
	t.Helper()
	if n, err := rampart.Check(line); n != 0 || err != ok {
		t.Errorf("P25.1: Check(%s) is %d, %d; it should be 0, 0", short(line), n, int(err))
	}
	if text, err := newShell(t).Do(line); text == "" || err != ok {
		t.Errorf("P25.1: Do(%s) is %s, %d; it should tell something, 0", short(line), short(text), int(err))
	}
	word, _, _ := strings.Cut(strings.Trim(line, " \t"), " ")
	if _, is := rampart.Step(line); is != isStep(word) {
		t.Errorf("P25.1: Step(%s) tells %t; it should be %t", short(line), is, isStep(word))
	}
}

// isStepOf holds Step of a line against a step.
func isStepOf(t *testing.T, line string, want api.Step) {
	t.Helper()
	if step, is := rampart.Step(line); !is || !sameStep(step, want) {
		t.Errorf("P25.1: Step(%s) is %s, %t; it should be %s, true", short(line), show(step), is, show(want))
	}
}

func sameStep(a, b api.Step) bool {
	return a.Kind == b.Kind && a.Node == b.Node && a.N == b.N && a.K == b.K && slices.Equal(a.Pairs, b.Pairs) && slices.Equal(a.Keys, b.Keys)
}

// show is a thing for a message.
func show(v any) string { return short(fmt.Sprintf("%+v", v)) }

// isTold holds Tell of an event against its line, said outright, and looks whether what is handed in is changed.
func isTold(t *testing.T, e api.Event, want string) {
	t.Helper()
	handed := roomy(e)
	if got := rampart.Tell(handed); got != want {
		t.Errorf("P25.1: Tell(%s) is %s; it should be %s", show(e), short(got), short(want))
	}
	if !alike(reflect.ValueOf(handed), reflect.ValueOf(roomy(e))) {
		t.Errorf("P25.1: Tell changed what was handed in: %s, it was %s", show(handed), show(e))
	}
}

// spare is how much room roomy leaves behind a list.
const spare = 3

// roomy is a copy of a thing in new memory; each list in it has spare room with marks in it.
func roomy[T any](v T) T { return copyOf(reflect.ValueOf(&v).Elem()).Interface().(T) }

func copyOf(v reflect.Value) reflect.Value {
	out := reflect.New(v.Type()).Elem()
	switch v.Kind() {
	case reflect.Slice:
		n := v.Len()
		out.Set(reflect.MakeSlice(v.Type(), n+spare, n+spare))
		for i := range n {
			out.Index(i).Set(copyOf(v.Index(i)))
		}
		for i := n; i < n+spare; i++ {
			mark(out.Index(i))
		}
		return out.Slice(0, n)
	case reflect.Struct:
		for i := range v.NumField() {
			out.Field(i).Set(copyOf(v.Field(i)))
		}
	default:
		out.Set(v)
	}
	return out
}

// mark writes over a thing.
func mark(v reflect.Value) {
	switch v.Kind() {
	case reflect.Struct:
		for i := range v.NumField() {
			mark(v.Field(i))
		}
	case reflect.String:
		v.SetString("a mark")
	case reflect.Uint64:
		v.SetUint(77)
	}
}

// alike tells whether two things that roomy made are alike in all that they hold, the spare room too.
func alike(a, b reflect.Value) bool {
	switch a.Kind() {
	case reflect.Slice:
		if a.Len() != b.Len() || a.Cap() != b.Cap() {
			return false
		}
		a, b = a.Slice(0, a.Cap()), b.Slice(0, b.Cap())
		for i := range a.Len() {
			if !alike(a.Index(i), b.Index(i)) {
				return false
			}
		}
		return true
	case reflect.Struct:
		for i := range a.NumField() {
			if !alike(a.Field(i), b.Field(i)) {
				return false
			}
		}
		return true
	}
	return a.Equal(b)
}
