package history

import (
	"math"
	"strconv"
	"strings"

	"rampart/api"
)

// readEvent reads a line without its end. It takes just what writeEvent writes: each event has one line.
func readEvent(line string) (api.Event, bool) {
	parts := strings.Split(line, " ")
	if len(parts) < 3 {
		return api.Event{}, false
	}
	client, isNumber := readNumber(parts[0])
	if !isNumber || client >= api.MaxClients {
		return api.Event{}, false
	}
	txn, isNumber := readNumber(parts[1])
	if !isNumber || txn < 1 || txn > math.MaxInt {
		return api.Event{}, false
	}
	e := api.Event{Client: int(client), Txn: int(txn)}
	switch parts[2] {
	case wordWrite:
		return readWrite(e, parts[3:])
	case wordRead:
		return readRead(e, parts[3:])
	}
	return readAnswer(e, parts[2], parts[3:])
}

func readWrite(e api.Event, parts []string) (api.Event, bool) {
	if len(parts) == 0 {
		return e, false
	}
	id, ok := readNumber(parts[0])
	if !ok {
		return e, false
	}
	e.Kind, e.ID = api.EvWrite, api.ID(id)
	for _, part := range parts[1:] {
		p, ok := readPair(part)
		if !ok {
			return e, false
		}
		e.Pairs = append(e.Pairs, p)
	}
	return e, true
}

func readRead(e api.Event, parts []string) (api.Event, bool) {
	keys, ok := readTexts(parts)
	e.Kind, e.Keys = api.EvRead, keys
	return e, ok
}

func readAnswer(e api.Event, word string, parts []string) (api.Event, bool) {
	result := resultOf(word)
	if result == 0 || len(parts) == 0 {
		return e, false
	}
	id, ok := readNumber(parts[0])
	if !ok {
		return e, false
	}
	e.Kind = api.EvAnswer
	e.Answer = api.Answer{Txn: e.Txn, Result: result, ID: api.ID(id)}
	for _, part := range parts[1:] {
		v, ok := readVersion(part)
		if !ok {
			return e, false
		}
		e.Answer.Versions = append(e.Answer.Versions, v)
	}
	return e, true
}

// resultOf is the result of that word; 0: none.
func resultOf(word string) int {
	for i, w := range resultWords {
		if w == word {
			return api.RsOK + i
		}
	}
	return 0
}

func readPair(s string) (api.Pair, bool) {
	texts, ok := readTexts(strings.Split(s, "="))
	if !ok || len(texts) != 2 {
		return api.Pair{}, false
	}
	return api.Pair{Key: texts[0], Value: texts[1]}, true
}

func readVersion(s string) (api.Version, bool) {
	parts := strings.Split(s, "=")
	if len(parts) < 2 {
		return api.Version{}, false
	}
	key, isText := readText(parts[0])
	id, isNumber := readNumber(parts[1])
	if !isText || !isNumber {
		return api.Version{}, false
	}
	if id == 0 {
		return api.Version{Key: key}, len(parts) == 2
	}
	if len(parts) < 3 {
		return api.Version{}, false
	}
	value, isText := readText(parts[2])
	keys, areTexts := readTexts(parts[3:])
	return api.Version{Key: key, ID: api.ID(id), Value: value, Keys: keys}, isText && areTexts
}

func readTexts(parts []string) ([]string, bool) {
	var out []string
	for _, part := range parts {
		text, ok := readText(part)
		if !ok {
			return nil, false
		}
		out = append(out, text)
	}
	return out, true
}

// readText reads a text into memory of its own: a piece of the line would keep all the lines.
func readText(s string) (string, bool) {
	if s == "%" {
		return "", true
	}
	if s == "" {
		return "", false
	}
	out := make([]byte, 0, len(s))
	for s != "" {
		c, size := readByte(s)
		if size == 0 {
			return "", false
		}
		out = append(out, c)
		s = s[size:]
	}
	return string(out), true
}

// readByte reads a text's next byte, written in so many; 0: none is written so.
func readByte(s string) (byte, int) {
	if isPlain(s[0]) {
		return s[0], 1
	}
	if s[0] != '%' || len(s) < 3 {
		return 0, 0
	}
	high, low := strings.IndexByte(digits, s[1]), strings.IndexByte(digits, s[2])
	if high < 0 || low < 0 || isPlain(byte(high<<4|low)) {
		return 0, 0
	}
	return byte(high<<4 | low), 3
}

// readNumber reads digits alone, without noughts in front.
func readNumber(s string) (uint64, bool) {
	if len(s) > 1 && s[0] == '0' {
		return 0, false
	}
	n, err := strconv.ParseUint(s, 10, 64)
	return n, err == nil
}
