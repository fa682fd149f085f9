package rampart_test

import (
	"math"
	"testing"

	"rampart/api"
)

// Tell, of every event there can be.

func TestTellOfRequests(t *testing.T) {
	isTold(t, write(0, 1, 65536, pair("a", "1"), pair("b", "2")), "0 1 write 65536 a=1 b=2")
	isTold(t, write(0, 1, 0), "0 1 write 0")
	isTold(t, write(15, 4096, greatest, pair("", ""), pair(" ", "="), pair("%", "#")), "15 4096 write 18446744073709551615 %=% %20=%3d %25=%23")
	isTold(t, write(1, 2, 5, pair("b", "b"), pair("a", "a"), pair("b", "b")), "1 2 write 5 b=b a=a b=b")
	isTold(t, read(0, 1, "a", "b"), "0 1 read a b")
	isTold(t, read(0, 1), "0 1 read")
	isTold(t, read(3, 2, "", "b", "", "a\n\xff"), "3 2 read % b % a%0a%ff")
	isTold(t, write(math.MinInt, math.MaxInt, 1), "-9223372036854775808 9223372036854775807 write 1")
	isTold(t, read(-1, -5, "a"), "-1 -5 read a")
	isTold(t, read(0, 0, "a"), "0 0 read a")
	isTold(t, read(16, 0), "16 0 read")
	isTold(t, write(1000000, 0, 0), "1000000 0 write 0")
}

// Of each kind its own fields alone are told.
func TestTellOfWhatMayNotBe(t *testing.T) {
	full := api.Event{Client: 2, Txn: 3, ID: 7, Pairs: []api.Pair{pair("a", "b")}, Keys: []string{"c", ""}, Answer: api.Answer{Txn: 9, Result: 2, ID: 8, Versions: []api.Version{version("d", 5, "e", "f"), version("g", 0, "h", "i")}}}
	for kind, want := range map[int]string{evWrite: "2 3 write 7 a=b", evRead: "2 3 read c %", evAnswer: "2 3 stale id 8 d 5 e g 0 -", 0: "?", 4: "?", -1: "?", 257: "?", 65537: "?", 1 << 32: "?", math.MaxInt: "?", math.MinInt: "?", math.MinInt + 1: "?"} {
		e := full
		e.Kind = kind
		isTold(t, e, want)
		isTold(t, api.Event{Kind: kind, Client: e.Client, Txn: e.Txn, ID: e.ID, Pairs: e.Pairs, Keys: e.Keys, Answer: e.Answer}, want)
	}
	for kind, want := range map[int]string{evWrite: "0 0 write 0", evRead: "0 0 read", evAnswer: "0 0 ?", 0: "?", 4: "?"} {
		isTold(t, api.Event{Kind: kind}, want)
	}
}

func TestTellOfAnswers(t *testing.T) {
	for result, word := range map[int]string{
		1: "ok", 2: "stale", 3: "aborted", 4: "unknown", 5: "invalid", 6: "exhausted",
		0: "?", 7: "?", 8: "?", 100: "?", -1: "?", -6: "?", 256: "?", 257: "?", 65537: "?", 1<<32 + 1: "?", 1<<63 - 1: "?", -1 << 63: "?", -1<<63 + 1: "?",
	} {
		isTold(t, answer(0, 1, result, 0), "0 1 "+word)
		isTold(t, answer(1, 2, result, 65537), "1 2 "+word+" id 65537")
		isTold(t, answer(1, 2, result, greatest), "1 2 "+word+" id 18446744073709551615")
		isTold(t, answer(1, 2, result, 0, version("a", 65536, "1")), "1 2 "+word+" a 65536 1")
		isTold(t, answer(1, 2, result, 1, version("a", 65536, "1")), "1 2 "+word+" id 1 a 65536 1")
	}
	isTold(t, answer(-3, -4, 1, 0), "-3 -4 ok")
	isTold(t, answer(1, 2, 1, 0, version("a", 0, ""), version("", 0, "")), "1 2 ok a 0 - % 0 -")
	isTold(t, answer(1, 2, 1, 0, version("a", 0, "x", "y")), "1 2 ok a 0 -")
	isTold(t, answer(1, 2, 1, 0, version("a", 1, ""), version("a", 1, "-"), version("", greatest, "%", "a", "b")), "1 2 ok a 1 % a 1 - % 18446744073709551615 %25")
	isTold(t, answer(1, 2, 1, 0, version("b", 2, " "), version("a", 1, "\x00\t"), version("b", 2, " ")), "1 2 ok b 2 %20 a 1 %00%09 b 2 %20")
	// The request's number is the event's, not the answer's.
	e := answer(1, 2, 1, 0)
	e.Answer.Txn = 77
	isTold(t, e, "1 2 ok")
	e.ID = 5
	isTold(t, e, "1 2 ok")
}
