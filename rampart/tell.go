package rampart

import (
	"strconv"
	"strings"

	"rampart/api"
	"rampart/cluster"
	"rampart/history"
)

// What is told of a command that happened, of one that didn't, and of an event's part that there is not.
const (
	ok      = "ok"
	no      = "no"
	unknown = "?"
)

// The words of the kinds of messages, and of the results.
var (
	kindWords   = [...]string{"", "prepare", "commit", "latest", "byid", "prepared", "committed", "versions", "nack"}
	resultWords = [...]string{unknown, ok, "stale", "aborted", "unknown", "invalid", "exhausted"}
)

// line is a line of these words.
func line(words ...string) string { return strings.Join(words, " ") + "\n" }

// list is how many lines there are, and then they.
func list(lines []string) string {
	return line(ok, strconv.Itoa(len(lines))) + strings.Join(lines, "")
}

func events(l []api.Event) string {
	var lines []string
	for _, e := range l {
		lines = append(lines, line(Tell(e)))
	}
	return list(lines)
}

func flight(l []cluster.Frame) string {
	var lines []string
	for _, f := range l {
		lines = append(lines, line(kindWords[f.Message.Kind], node(f.From), node(f.To), strconv.FormatUint(f.Message.Req, 10)))
	}
	return list(lines)
}

// node is a partition, or, below 0, a client: -1 is client 0.
func node(number int) string {
	if number >= 0 {
		return "p" + strconv.Itoa(number)
	}
	return "c" + strconv.Itoa(-1-number)
}

func tellWrite(e api.Event) string {
	return asked(e) + " " + request(api.Event{Kind: api.EvWrite, ID: e.ID, Pairs: e.Pairs})
}

func tellRead(e api.Event) string {
	return asked(e) + " " + request(api.Event{Kind: api.EvRead, Keys: e.Keys})
}

func tellAnswer(e api.Event) string {
	words := []string{asked(e), resultWord(e.Answer.Result)}
	if e.Answer.ID != 0 {
		words = append(words, "id", id(e.Answer.ID))
	}
	for _, v := range e.Answer.Versions {
		words = append(words, text(v.Key), id(v.ID), value(v))
	}
	return strings.Join(words, " ")
}

// asked is whose request it is, and which.
func asked(e api.Event) string { return strconv.Itoa(e.Client) + " " + strconv.Itoa(e.Txn) }

func id(n api.ID) string { return strconv.FormatUint(uint64(n), 10) }

func resultWord(result int) string {
	if result < 0 || result >= len(resultWords) {
		return unknown
	}
	return resultWords[result]
}

func value(v api.Version) string {
	if v.ID == 0 {
		return "-"
	}
	return text(v.Value)
}

// request is a history's line without its client and number, which may be any here: what is behind them is the same.
func request(e api.Event) string {
	e.Txn = 1
	written, _ := history.Print([]api.Event{e})
	return strings.TrimSuffix(strings.TrimPrefix(written, "0 1 "), "\n")
}

// text is written as a read's key.
func text(s string) string {
	return strings.TrimPrefix(request(api.Event{Kind: api.EvRead, Keys: []string{s}}), "read ")
}
