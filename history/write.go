package history

import (
	"strconv"
	"strings"

	"rampart/api"
)

// The words of the lines: the kinds of requests, the results (RsOK first), the digits of a byte that doesn't stand for itself.
const (
	wordWrite = "write"
	wordRead  = "read"
	digits    = "0123456789abcdef"
)

var resultWords = [...]string{"ok", "stale", "aborted", "unknown", "invalid", "exhausted"}

// isPlain tells whether a byte stands for itself in a text.
func isPlain(c byte) bool { return c >= 33 && c <= 126 && c != '#' && c != '%' && c != '=' }

// writeEvent writes the line of an event that may be.
func writeEvent(b *strings.Builder, e api.Event) {
	writeNumber(b, uint64(e.Client))
	b.WriteByte(' ')
	writeNumber(b, uint64(e.Txn))
	b.WriteByte(' ')
	switch e.Kind {
	case api.EvWrite:
		writeWrite(b, e)
	case api.EvRead:
		writeRead(b, e)
	case api.EvAnswer:
		writeAnswer(b, e.Answer)
	}
	b.WriteByte('\n')
}

func writeWrite(b *strings.Builder, e api.Event) {
	b.WriteString(wordWrite)
	b.WriteByte(' ')
	writeNumber(b, uint64(e.ID))
	for _, p := range e.Pairs {
		b.WriteByte(' ')
		writeText(b, p.Key)
		b.WriteByte('=')
		writeText(b, p.Value)
	}
}

func writeRead(b *strings.Builder, e api.Event) {
	b.WriteString(wordRead)
	for _, key := range e.Keys {
		b.WriteByte(' ')
		writeText(b, key)
	}
}

func writeAnswer(b *strings.Builder, a api.Answer) {
	b.WriteString(resultWords[a.Result-api.RsOK])
	b.WriteByte(' ')
	writeNumber(b, uint64(a.ID))
	for _, v := range a.Versions {
		b.WriteByte(' ')
		writeVersion(b, v)
	}
}

func writeVersion(b *strings.Builder, v api.Version) {
	writeText(b, v.Key)
	b.WriteByte('=')
	writeNumber(b, uint64(v.ID))
	if v.ID == 0 {
		return
	}
	b.WriteByte('=')
	writeText(b, v.Value)
	for _, key := range v.Keys {
		b.WriteByte('=')
		writeText(b, key)
	}
}

func writeNumber(b *strings.Builder, n uint64) { b.WriteString(strconv.FormatUint(n, 10)) }

func writeText(b *strings.Builder, s string) {
	if s == "" {
		b.WriteByte('%')
	}
	for i := range len(s) {
		if isPlain(s[i]) {
			b.WriteByte(s[i])
			continue
		}
		b.WriteByte('%')
		b.WriteByte(digits[s[i]>>4])
		b.WriteByte(digits[s[i]&15])
	}
}
