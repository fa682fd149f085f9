package judge_test

import (
	"fmt"
	"slices"

	"rampart/api"
	"rampart/history"
	"rampart/judge"
)

// The chapter's words, each by itself, by going through the whole history each time.

func isWrite(e api.Event) bool { return e.Kind == evWrite && e.ID != 0 }

func wrote(w api.Event, key string) bool {
	for _, p := range w.Pairs {
		if p.Key == key {
			return true
		}
	}
	return false
}

// keysOf are all keys that a write wrote, rising, each once.
func keysOf(w api.Event) []string {
	there := map[string]bool{}
	var keys []string
	for _, p := range w.Pairs {
		if !there[p.Key] {
			there[p.Key] = true
			keys = append(keys, p.Key)
		}
	}
	slices.Sort(keys)
	return keys
}

// requestOf is the place of the request to which the answer at a place belongs.
func requestOf(h []api.Event, at int) int {
	return slices.IndexFunc(h, func(e api.Event) bool {
		return e.Kind != evAnswer && e.Client == h[at].Client && e.Txn == h[at].Txn
	})
}

// answerOf is the place of the answer to the request at a place; -1: there is none.
func answerOf(h []api.Event, at int) int {
	return slices.IndexFunc(h, func(e api.Event) bool {
		return e.Kind == evAnswer && e.Client == h[at].Client && e.Txn == h[at].Txn
	})
}

// told is a version that the answer at the place i tells, to the request at the place j.
type told struct {
	h    []api.Event
	i, j int
	v    api.Version
}

func (x told) forged() (api.ID, bool) {
	if x.v.ID == 0 {
		return 0, false
	}
	for _, w := range x.h[:x.i] {
		if isWrite(w) && w.ID == x.v.ID {
			there := slices.Contains(w.Pairs, api.Pair{Key: x.v.Key, Value: x.v.Value})
			return 0, !there || !slices.Equal(x.v.Keys, keysOf(w))
		}
	}
	return 0, true
}

func (x told) aborted() (api.ID, bool) {
	for at, w := range x.h {
		if isWrite(w) && w.ID == x.v.ID {
			end := answerOf(x.h, at)
			return 0, end >= 0 && x.h[end].Answer.Result == rsAborted
		}
	}
	return 0, false
}

func (x told) torn() (other api.ID, broken bool) {
	for _, u := range x.h[x.i].Answer.Versions {
		for _, w := range x.h[:x.i] {
			if u.ID > x.v.ID && isWrite(w) && w.ID == u.ID && wrote(w, x.v.Key) {
				other, broken = max(other, u.ID), true
			}
		}
	}
	return other, broken
}

func (x told) lost() (other api.ID, broken bool) {
	for at, w := range x.h {
		if !isWrite(w) || w.ID <= x.v.ID || !wrote(w, x.v.Key) {
			continue
		}
		end := answerOf(x.h, at)
		if end >= 0 && end < x.j && x.h[end].Answer.Result == rsOK {
			other, broken = max(other, w.ID), true
		}
	}
	return other, broken
}

func modelJudge(h []api.Event) ([]judge.Finding, api.Errno) {
	if !history.Proper(h) {
		return nil, errArg
	}
	var found []judge.Finding
	for i, e := range h {
		if e.Kind != evAnswer || e.Answer.Result != rsOK || h[requestOf(h, i)].Kind != evRead {
			continue
		}
		for _, v := range e.Answer.Versions {
			x := told{h: h, i: i, j: requestOf(h, i), v: v}
			for n, rule := range []func() (api.ID, bool){x.forged, x.aborted, x.torn, x.lost} {
				if other, broken := rule(); broken {
					found = append(found, judge.Finding{At: i, Rule: n + 1, Key: v.Key, ID: v.ID, Other: other})
				}
			}
		}
	}
	return found, ok
}

func modelTell(f judge.Finding) string {
	words := map[int]string{1: "forged", 2: "aborted", 3: "torn", 4: "lost"}
	if f.At < 0 || words[f.Rule] == "" {
		return ""
	}
	key := "-"
	if f.Key != "" {
		key = fmt.Sprintf("%x", f.Key)
	}
	return fmt.Sprintf("%d %s %s %d %d", f.At, words[f.Rule], key, uint64(f.ID), uint64(f.Other))
}
