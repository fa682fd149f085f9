package history_test

import (
	"fmt"
	"strings"

	"rampart/api"
)

// modelMay tells whether an event may be, by the chapter's words.
func modelMay(e api.Event) bool {
	noAnswer := sameAnswer(e.Answer, api.Answer{})
	may := e.Client >= 0 && e.Client <= 15 && e.Txn >= 1
	if e.Kind == 1 {
		return may && len(e.Keys) == 0 && noAnswer
	}
	if e.Kind == 2 {
		return may && e.ID == 0 && len(e.Pairs) == 0 && noAnswer
	}
	a := e.Answer
	may = may && e.Kind == 3 && e.ID == 0 && len(e.Pairs) == 0 && len(e.Keys) == 0 && a.Txn == e.Txn && a.Result >= 1 && a.Result <= 6
	for _, v := range a.Versions {
		may = may && (v.ID != 0 || v.Value == "" && len(v.Keys) == 0)
	}
	return may
}

func allMay(l []api.Event) bool {
	for _, e := range l {
		if !modelMay(e) {
			return false
		}
	}
	return true
}

// modelText is how a text is written.
func modelText(s string) string {
	if s == "" {
		return "%"
	}
	out := ""
	for _, b := range []byte(s) {
		if b >= 33 && b <= 126 && !strings.Contains("#%=", string(rune(b))) {
			out += string(rune(b))
		} else {
			out += fmt.Sprintf("%%%02x", b)
		}
	}
	return out
}

var modelWords = map[int]string{1: "ok", 2: "stale", 3: "aborted", 4: "unknown", 5: "invalid", 6: "exhausted"}

// modelLine is the line of an event that may be.
func modelLine(e api.Event) string {
	parts := []string{fmt.Sprint(e.Client), fmt.Sprint(e.Txn)}
	switch e.Kind {
	case 1:
		parts = append(parts, "write", fmt.Sprint(uint64(e.ID)))
		for _, p := range e.Pairs {
			parts = append(parts, modelText(p.Key)+"="+modelText(p.Value))
		}
	case 2:
		parts = append(parts, "read")
		for _, k := range e.Keys {
			parts = append(parts, modelText(k))
		}
	case 3:
		parts = append(parts, modelWords[e.Answer.Result], fmt.Sprint(uint64(e.Answer.ID)))
		for _, v := range e.Answer.Versions {
			part := modelText(v.Key) + "=" + fmt.Sprint(uint64(v.ID))
			if v.ID != 0 {
				part += "=" + modelText(v.Value)
				for _, k := range v.Keys {
					part += "=" + modelText(k)
				}
			}
			parts = append(parts, part)
		}
	}
	return strings.Join(parts, " ") + "\n"
}

func modelPrint(l []api.Event) (string, api.Errno) {
	if !allMay(l) {
		return "", errArg
	}
	out := ""
	for _, e := range l {
		out += modelLine(e)
	}
	return out, ok
}

// guessText is the text that is written so, if one is: whatever the form, the caller writes it again and compares.
func guessText(s string) string {
	if s == "%" {
		return ""
	}
	out := ""
	for s != "" {
		b := 0
		if len(s) >= 3 && s[0] == '%' {
			if n, _ := fmt.Sscanf(s[1:3], "%02x", &b); n == 1 {
				out += string([]byte{byte(b)})
				s = s[3:]
				continue
			}
		}
		out += s[:1]
		s = s[1:]
	}
	return out
}

func guessTexts(l []string) []string {
	var out []string
	for _, s := range l {
		out = append(out, guessText(s))
	}
	return out
}

// guessEvent is the event whose line this is, if one's it is.
func guessEvent(line string) api.Event {
	parts := strings.Split(strings.TrimSuffix(line, "\n"), " ")
	more := parts[min(3, len(parts)):]
	parts = append(parts, "", "", "")
	e := api.Event{}
	fmt.Sscan(parts[0], &e.Client)
	fmt.Sscan(parts[1], &e.Txn)
	if parts[2] == "read" {
		e.Kind, e.Keys = 2, guessTexts(more)
		return e
	}
	id := api.ID(0)
	fmt.Sscan(parts[3], &id)
	if len(more) > 0 {
		more = more[1:]
	}
	if parts[2] == "write" {
		e.Kind, e.ID = 1, id
		for _, part := range more {
			texts := append(guessTexts(strings.Split(part, "=")), "")
			e.Pairs = append(e.Pairs, api.Pair{Key: texts[0], Value: texts[1]})
		}
		return e
	}
	e.Kind, e.Answer.Txn, e.Answer.ID = 3, e.Txn, id
	for result, word := range modelWords {
		if word == parts[2] {
			e.Answer.Result = result
		}
	}
	for _, part := range more {
		e.Answer.Versions = append(e.Answer.Versions, guessVersion(part))
	}
	return e
}

func guessVersion(part string) api.Version {
	pieces := strings.Split(part, "=")
	v := api.Version{Key: guessText(pieces[0])}
	if len(pieces) > 1 {
		fmt.Sscan(pieces[1], &v.ID)
	}
	if len(pieces) > 2 {
		v.Value, v.Keys = guessText(pieces[2]), guessTexts(pieces[3:])
	}
	return v
}

// modelParse takes each line for what it may be, and asks whether that one's line is this one.
func modelParse(s string) ([]api.Event, int, api.Errno) {
	var l []api.Event
	for i, line := range strings.SplitAfter(s, "\n") {
		if line == "" {
			break
		}
		e := guessEvent(line)
		if !modelMay(e) || modelLine(e) != line {
			return nil, i + 1, errBad
		}
		l = append(l, e)
	}
	return l, 0, ok
}

// The six things that a proper list has, each by itself.

func eachMayBe(l []api.Event) bool { return allMay(l) }

func isRequest(e api.Event) bool { return e.Kind == 1 || e.Kind == 2 }

func numbered(l []api.Event) bool {
	var asked [16]int
	for _, e := range l {
		if isRequest(e) {
			asked[e.Client]++
			if e.Txn != asked[e.Client] {
				return false
			}
		}
	}
	return true
}

// requestOf is the place of the first request ahead of a place that an event can belong to; -1: none.
func requestOf(l []api.Event, at int) int {
	for i, e := range l[:at] {
		if isRequest(e) && e.Client == l[at].Client && e.Txn == l[at].Txn {
			return i
		}
	}
	return -1
}

func answeredOnce(l []api.Event) bool {
	for at, a := range l {
		if a.Kind != 3 {
			continue
		}
		if requestOf(l, at) < 0 {
			return false
		}
		for _, b := range l[:at] {
			if b.Kind == 3 && b.Client == a.Client && b.Txn == a.Txn {
				return false
			}
		}
	}
	return true
}

func named(l []api.Event) bool {
	for at, e := range l {
		if e.Kind != 1 {
			continue
		}
		if e.ID == 0 {
			if at == len(l)-1 || l[at+1].Kind != 3 || l[at+1].Client != e.Client || l[at+1].Txn != e.Txn {
				return false
			}
			continue
		}
		if e.ID < 65536 || e.ID%65536 != api.ID(e.Client) {
			return false
		}
		for _, w := range l[:at] {
			if w.Kind == 1 && w.Client == e.Client && w.ID >= e.ID {
				return false
			}
		}
	}
	return true
}

func writesAnswered(l []api.Event) bool {
	for at, e := range l {
		if e.Kind != 3 || requestOf(l, at) < 0 || l[requestOf(l, at)].Kind != 1 {
			continue
		}
		a, w := e.Answer, l[requestOf(l, at)]
		refused := a.Result == 5 || a.Result == 6
		if len(a.Versions) > 0 || a.ID != w.ID || refused != (w.ID == 0) || a.Result == 2 {
			return false
		}
	}
	return true
}

func readsAnswered(l []api.Event) bool {
	for at, e := range l {
		if e.Kind != 3 || requestOf(l, at) < 0 || l[requestOf(l, at)].Kind != 2 {
			continue
		}
		a := e.Answer
		if a.ID != 0 || a.Result == 4 || a.Result == 6 || a.Result == 5 && requestOf(l, at) != at-1 {
			return false
		}
		var keys, want []string
		for _, v := range a.Versions {
			keys = append(keys, v.Key)
		}
		if a.Result == 1 {
			want = l[requestOf(l, at)].Keys
		}
		if fmt.Sprintf("%q", keys) != fmt.Sprintf("%q", want) {
			return false
		}
	}
	return true
}

// rules are the chapter's six things in their order. Behind the first they are asked only of lists whose events may be.
var rules = []func([]api.Event) bool{eachMayBe, numbered, answeredOnce, named, writesAnswered, readsAnswered}

func modelProper(l []api.Event) bool {
	for _, rule := range rules {
		if !rule(l) {
			return false
		}
	}
	return true
}

func modelOf(l []api.Event, client int) ([]api.Event, api.Errno) {
	if client < 0 || client > 15 {
		return nil, errArg
	}
	var out []api.Event
	for _, e := range l {
		if e.Client == client {
			out = append(out, e)
		}
	}
	return out, ok
}
