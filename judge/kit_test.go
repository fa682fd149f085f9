package judge_test

import (
	"fmt"
	"reflect"
	"strings"
	"testing"

	"rampart/api"
	"rampart/history"
	"rampart/judge"
)

// The chapters' numbers, not api's and judge's.
const (
	ok     = api.Errno(0)
	errArg = api.Errno(1)

	evWrite  = 1
	evRead   = 2
	evAnswer = 3

	rsOK        = 1
	rsStale     = 2
	rsAborted   = 3
	rsUnknown   = 4
	rsInvalid   = 5
	rsExhausted = 6

	ruForged  = 1
	ruAborted = 2
	ruTorn    = 3
	ruLost    = 4
)

func write(client, txn int, id api.ID, pairs ...api.Pair) api.Event {
	return api.Event{Kind: evWrite, Client: client, Txn: txn, ID: id, Pairs: pairs}
}

func read(client, txn int, keys ...string) api.Event {
	return api.Event{Kind: evRead, Client: client, Txn: txn, Keys: keys}
}

func answer(client, txn, result int, id api.ID, versions ...api.Version) api.Event {
	return api.Event{Kind: evAnswer, Client: client, Txn: txn, Answer: api.Answer{Txn: txn, Result: result, ID: id, Versions: versions}}
}

// events are those of lines as history has them, parted by "; ".
func events(t *testing.T, lines string) []api.Event {
	t.Helper()
	if lines == "" {
		return nil
	}
	l, at, err := history.Parse(strings.ReplaceAll(lines, "; ", "\n") + "\n")
	if err != ok {
		t.Fatalf("line %d of %q is no event's", at, lines)
	}
	return l
}

// show is a history for a message.
func show(h []api.Event) string {
	s, err := history.Print(h)
	if err != ok {
		s = fmt.Sprintf("%q", fmt.Sprint(h))
	}
	if len(s) > 3000 {
		s = s[:3000] + ".."
	}
	return strings.ReplaceAll(strings.TrimSuffix(s, "\n"), "\n", "; ")
}

// spare is how much room roomy leaves behind a list.
const spare = 3

// roomy is a copy of a thing in new memory; each list in it has spare room with marks in it.
func roomy[T any](v T) T { return copyOf(reflect.ValueOf(&v).Elem()).Interface().(T) }

func copyOf(v reflect.Value) reflect.Value {
	out := reflect.New(v.Type()).Elem()
	switch v.Kind() {
	case reflect.Slice:
		n := v.Len()
		out.Set(reflect.MakeSlice(v.Type(), n+spare, n+spare))
		for i := range n {
			out.Index(i).Set(copyOf(v.Index(i)))
		}
		for i := n; i < n+spare; i++ {
			mark(out.Index(i), "a mark", 77)
		}
		return out.Slice(0, n)
	case reflect.Struct:
		for i := range v.NumField() {
			out.Field(i).Set(copyOf(v.Field(i)))
		}
	case reflect.String:
		out.SetString(strings.Clone(v.String()))
	default:
		out.Set(v)
	}
	return out
}

// mark writes over a thing, and over all that its lists hold, their spare room too.
func mark(v reflect.Value, text string, number int) {
	switch v.Kind() {
	case reflect.Slice:
		for i := range v.Cap() {
			mark(v.Slice(0, v.Cap()).Index(i), text, number)
		}
	case reflect.Struct:
		for i := range v.NumField() {
			mark(v.Field(i), text, number)
		}
	case reflect.String:
		v.SetString(text)
	case reflect.Int:
		v.SetInt(int64(number))
	case reflect.Uint64:
		v.SetUint(uint64(number))
	}
}

// spoil writes over a list, over all that it holds, and over the spare room.
func spoil[T any](l []T) { mark(reflect.ValueOf(l), "spoilt", 9) }

// same tells whether two lists that roomy made are alike in all that they hold, the spare room too.
func same[T any](a, b []T) bool { return alike(reflect.ValueOf(a), reflect.ValueOf(b)) }

func alike(a, b reflect.Value) bool {
	switch a.Kind() {
	case reflect.Slice:
		if a.Len() != b.Len() || a.Cap() != b.Cap() {
			return false
		}
		a, b = a.Slice(0, a.Cap()), b.Slice(0, b.Cap())
		for i := range a.Len() {
			if !alike(a.Index(i), b.Index(i)) {
				return false
			}
		}
		return true
	case reflect.Struct:
		for i := range a.NumField() {
			if !alike(a.Field(i), b.Field(i)) {
				return false
			}
		}
		return true
	}
	return a.Equal(b)
}

// lines are findings as the chapter's words tell them.
func lines(l []judge.Finding) string {
	var out []string
	for _, f := range l {
		out = append(out, modelTell(f))
	}
	return strings.Join(out, "; ")
}

// upTo calls f with every list of at most n of the things.
func upTo[T any](things []T, n int, f func([]T)) {
	var grow func(l []T)
	grow = func(l []T) {
		f(l)
		if len(l) == n {
			return
		}
		for _, thing := range things {
			grow(append(l[:len(l):len(l)], thing))
		}
	}
	grow(nil)
}
