package history_test

import (
	"fmt"
	"math"
	"slices"
	"strings"
	"testing"

	"rampart/api"
)

func TestExamples(t *testing.T) {
	one := list(write(0, 1, 65536, pair("a", "1"), pair("", "x y")), answer(0, 1, rsOK, 65536))
	taken(t, one[:1], "0 1 write 65536 a=1 %=x%20y\n")
	taken(t, one[1:], "0 1 ok 65536\n")
	two := list(read(1, 2, "a", "z"), answer(1, 2, rsOK, 0, version("a", 65536, "1", "", "a"), bottom("z")))
	taken(t, two, "1 2 read a z\n1 2 ok 0 a=65536=1=%=a z=0\n")
	refused(t, "0 1 read a\n0 01 read\n", 2)
	refused(t, "0 1 read", 1)
	taken(t, nil, "")
	for _, s := range []string{"\n", "0 1 read  a\n", "16 1 read\n", "0 0 read\n", "0 1 write a=1\n"} {
		refused(t, s, 1)
	}
	refusedWrite := list(write(0, 1, 0), answer(0, 1, rsInvalid, 0))
	for _, c := range []struct {
		l    []api.Event
		want bool
	}{
		{one, true}, {one[1:], false}, {joined(one, one[1:]), false},
		{list(read(0, 2)), false}, {refusedWrite[:1], false}, {refusedWrite, true},
	} {
		if got := isProper(t, c.l); got != c.want {
			t.Errorf("P23.1: Proper of %s is %v; it should be %v", show(c.l), got, c.want)
		}
	}
}

func TestHardPlaces(t *testing.T) {
	taken(t, list(read(0, 1)), "0 1 read\n")
	taken(t, list(write(0, 1, 0)), "0 1 write 0\n")
	taken(t, list(read(0, 1, "=", "\xc8")), "0 1 read %3d %c8\n")
	for _, s := range []string{"%3D", "%41", "%C8", "%c", "%%", "a%", "=", "", "#", "%2", "%g0", "%0g", "\xc8", "a=b"} {
		refused(t, line("0 1 read", s), 1)
		refused(t, line("0 1 read", "a", s), 1)
		refused(t, line("0 1 read", s, "a"), 1)
	}
	for _, c := range []struct {
		text string
		v    api.Version
	}{
		{"a=65536=x=a=b", version("a", 65536, "x", "a", "b")}, {"a=65536=%", version("a", 65536, "")}, {"a=0", bottom("a")},
		{"a=65536=%=%", version("a", 65536, "", "")}, {"%=1=%=%=%", version("", 1, "", "", "")}, {"%=0", bottom("")},
		{"%3d=5=%3d=%3d", version("=", 5, "=", "=")},
	} {
		taken(t, list(answer(0, 1, rsOK, 0, c.v)), line("0 1 ok 0", c.text))
		taken(t, list(answer(0, 1, rsOK, 0, bottom("k"), c.v, bottom("k"))), line("0 1 ok 0 k=0", c.text, "k=0"))
	}
	for _, s := range []string{"a=0=%", "a=0=", "a=0=x", "a=0=%=%", "a=0=%=a", "a=", "a", "=0", "=", "==", "a=1", "a=1=", "a=1==", "a=1=x=", "a=1==x", "a=x=1", "a=01=x", "a=%30", "a=%=x", "a==x", "=1=x"} {
		refused(t, line("0 1 ok 0", s), 1)
		refused(t, line("0 1 ok 0", s, "a=0"), 1)
		refused(t, line("0 1 ok 0", "a=0", s), 1)
	}
	for _, s := range []string{"a", "a=", "=a", "=", "==", "a=b=", "=a=b", "a==b", "a=b=c", "%"} {
		refused(t, line("0 1 write 65536", s), 1)
		refused(t, line("0 1 write 65536", "a=b", s), 1)
		refused(t, line("0 1 write 65536", s, "a=b"), 1)
	}
	pending := list(read(0, 1, "a"), write(0, 2, 65536), read(1, 1))
	if !isProper(t, pending) {
		t.Errorf("P23.1: a request may be pending: Proper of %s is false", show(pending))
	}
}

// The parts of an event, and what each may be changed to.
var parts = []struct {
	name string
	set  []func(e *api.Event)
}{
	{"kind", sets(func(e *api.Event, v int) { e.Kind = v }, -1, 0, 1, 2, 3, 4, 5, 256, 257, math.MinInt, math.MaxInt)},
	{"client", sets(func(e *api.Event, v int) { e.Client = v }, -1, 0, 1, 14, 15, 16, 17, 256, math.MinInt, math.MaxInt)},
	{"txn", sets(func(e *api.Event, v int) { e.Txn = v }, -1, 0, 1, 2, 10, math.MinInt, math.MaxInt)},
	{"id", sets(func(e *api.Event, v api.ID) { e.ID = v }, 0, 1, 65535, 65536, math.MaxUint64)},
	{"pairs", sets(func(e *api.Event, v []api.Pair) { e.Pairs = v }, nil, []api.Pair{}, []api.Pair{{}}, []api.Pair{pair("a", "1")}, []api.Pair{pair("a", "1"), pair("a", "1")})},
	{"keys", sets(func(e *api.Event, v []string) { e.Keys = v }, nil, []string{}, []string{""}, []string{"a"}, []string{"a", "a"})},
	{"answer's txn", sets(func(e *api.Event, v int) { e.Answer.Txn = v }, -1, 0, 1, 2, 10, math.MinInt, math.MaxInt)},
	{"answer's result", sets(func(e *api.Event, v int) { e.Answer.Result = v }, -1, 0, 1, 2, 3, 4, 5, 6, 7, 8, 256, 257, math.MinInt, math.MaxInt)},
	{"answer's id", sets(func(e *api.Event, v api.ID) { e.Answer.ID = v }, 0, 1, 65536, math.MaxUint64)},
	{"answer's versions", sets(func(e *api.Event, v []api.Version) { e.Answer.Versions = v }, nil, []api.Version{}, []api.Version{bottom("")}, []api.Version{bottom("a"), bottom("a")},
		[]api.Version{version("a", 0, "x")}, []api.Version{version("a", 0, "", "")}, []api.Version{version("a", 0, "", "a")}, []api.Version{version("a", 0, "x", "a")},
		[]api.Version{{Key: "a", Keys: []string{}}}, []api.Version{version("a", 1, "")}, []api.Version{version("a", 1, "x", "a"), bottom("b")}, []api.Version{version("a", 1, "x", "a"), version("b", 0, "x")})},
}

func sets[T any](set func(*api.Event, T), values ...T) []func(*api.Event) {
	var out []func(*api.Event)
	for _, v := range values {
		out = append(out, func(e *api.Event) { set(e, v) })
	}
	return out
}

// holdsAlone holds all calls for a list of that event alone and beside another one.
func holdsAlone(t *testing.T, e api.Event) {
	t.Helper()
	prints(t, list(e))
	prints(t, list(read(0, 1), e))
	prints(t, list(e, read(0, 1)))
	isProper(t, list(e))
	isProper(t, list(read(0, 1), e))
	are(t, list(e, read(0, 1), e), e.Client)
	are(t, list(e, read(0, 1), e), 0)
}

func TestEachPartOfAnEvent(t *testing.T) {
	bases := list(write(0, 1, 65536, pair("a", "1")), write(0, 1, 0), read(0, 1, "a"), read(15, 1), answer(0, 1, rsOK, 65536), answer(1, 10, rsOK, 0, version("a", 65536, "1", "a"), bottom("b")), answer(0, 1, rsExhausted, 0), api.Event{})
	for _, base := range bases {
		holdsAlone(t, base)
		for i, part := range parts {
			for _, set := range part.set {
				e := base
				set(&e)
				holdsAlone(t, e)
				for _, other := range parts[:i] {
					for _, setOther := range other.set {
						f := e
						setOther(&f)
						prints(t, list(f))
						isProper(t, list(f))
					}
				}
			}
		}
	}
}

// Said outright, in case the model and the package are wrong alike.
func TestWhatMayNotBe(t *testing.T) {
	mayBe := list(write(0, 1, 0), write(15, math.MaxInt, math.MaxUint64, pair("", "")), read(0, 1), read(15, 1, "", ""), answer(0, 1, rsOK, 0), answer(15, 2, rsExhausted, 5, bottom("a")), answer(1, 1, rsStale, 5, version("a", 5, "")))
	for _, e := range mayBe {
		if s, err := onPrint(t, list(e)); err != ok || s == "" {
			t.Errorf("P23.1: Print of %s is %q, %d", show(list(e)), s, err)
		}
	}
	with := func(e api.Event, change func(*api.Event)) api.Event { change(&e); return e }
	mayNot := list(
		write(-1, 1, 0), write(16, 1, 0), write(0, 0, 0), write(0, -1, 0), read(-1, 1), read(16, 1), read(0, 0), answer(-1, 1, rsOK, 0), answer(16, 1, rsOK, 0), answer(0, 0, rsOK, 0), answer(0, 1, 0, 0), answer(0, 1, 7, 0), answer(0, 1, -1, 0),
		answer(0, 1, rsOK, 0, version("a", 0, "x")), answer(0, 1, rsOK, 0, version("a", 0, "", "")), answer(0, 1, rsOK, 0, bottom("b"), version("a", 0, "x", "a")), api.Event{}, api.Event{Client: 1, Txn: 1}, api.Event{Kind: 4, Txn: 1}, api.Event{Kind: -1, Txn: 1},
		with(write(0, 1, 0), func(e *api.Event) { e.Keys = []string{""} }), with(write(0, 1, 0), func(e *api.Event) { e.Answer.Txn = 1 }), with(write(0, 1, 0), func(e *api.Event) { e.Answer.Result = 1 }), with(write(0, 1, 0), func(e *api.Event) { e.Answer.ID = 1 }), with(write(0, 1, 0), func(e *api.Event) { e.Answer.Versions = []api.Version{bottom("")} }),
		with(read(0, 1), func(e *api.Event) { e.ID = 1 }), with(read(0, 1), func(e *api.Event) { e.Pairs = []api.Pair{{}} }), with(read(0, 1), func(e *api.Event) { e.Answer.Txn = 1 }), with(read(0, 1), func(e *api.Event) { e.Answer.Result = 1 }), with(read(0, 1), func(e *api.Event) { e.Answer.ID = 1 }), with(read(0, 1), func(e *api.Event) { e.Answer.Versions = []api.Version{bottom("")} }),
		with(answer(0, 1, rsOK, 0), func(e *api.Event) { e.ID = 1 }), with(answer(0, 1, rsOK, 0), func(e *api.Event) { e.Pairs = []api.Pair{{}} }), with(answer(0, 1, rsOK, 0), func(e *api.Event) { e.Keys = []string{""} }), with(answer(0, 1, rsOK, 0), func(e *api.Event) { e.Answer.Txn = 2 }), with(answer(0, 2, rsOK, 0), func(e *api.Event) { e.Answer.Txn = 0 }),
	)
	for _, e := range mayNot {
		for _, l := range [][]api.Event{list(e), joined(mayBe, list(e)), joined(list(e), mayBe)} {
			if s, err := onPrint(t, l); s != "" || err != errArg {
				t.Errorf("P23.1: Print of %s is %q, %d; it should be \"\", %d", show(l), s, err, errArg)
			}
		}
		if onProper(t, list(e)) {
			t.Errorf("P23.1: Proper of %s is true", show(list(e)))
		}
	}
}

// withText is a list with a text at each place where one stands.
func withText(s string) []api.Event {
	return list(read(0, 1, s), read(0, 1, s, "a", s), write(0, 1, 5, pair(s, "v"), pair("k", s), pair(s, s)), answer(0, 1, rsOK, 5, bottom(s), version(s, 1, "v"), version("k", 1, s), version("k", 1, "v", s), version("k", 1, "v", "a", s, "b", s)))
}

// textLines are lines with that in the places of a text, each place by itself.
func textLines(s string) []string {
	return []string{line("0 1 read", s), line("0 1 read", "a", s), line("0 1 read", s, "a"), line("0 1 write 5", s+"=v"), line("0 1 write 5", "k="+s), line("0 1 ok 5", s+"=0"), line("0 1 ok 5", s+"=1=v"), line("0 1 ok 5", "k=1="+s), line("0 1 ok 5", "k=1=v="+s), line("0 1 ok 5", "k=1=v=a="+s+"=b")}
}

func TestEachByteOfAText(t *testing.T) {
	for b := range 256 {
		c := string([]byte{byte(b)})
		want := fmt.Sprintf("%%%02x", b)
		if b >= 33 && b <= 126 && b != '#' && b != '%' && b != '=' {
			want = c
		}
		taken(t, list(read(0, 1, c)), "0 1 read "+want+"\n")
		for _, s := range []string{c, c + c, "a" + c, c + "a", "a" + c + "a", "%" + c, c + "0", "%2" + c} {
			prints(t, withText(s))
			for _, l := range textLines(s) {
				parses(t, l)
			}
		}
		for d := range 256 {
			s := c + string([]byte{byte(d)})
			text, err := onPrint(t, list(read(0, 1, s)))
			if back, at, bad := onParse(t, text); err != ok || bad != ok || at != 0 || !same(back, list(read(0, 1, s))) {
				t.Fatalf("P23.2: %q is written %q, %d, and read again %s, %d, %d", s, text, err, show(back), at, bad)
			}
			parses(t, line("0 1 read", s))
			parses(t, line("0 1 read", "%"+s))
		}
	}
	prints(t, withText(""))
	for _, s := range []string{"", "%", "%%", "%25", "%20%", "a%", "a%2", "a%20", "%20a", "%2 0", "%zz", "%+1", "%-1", "%0x", "%c3%a9", "\xc3\xa9", "%00", "%0a", "%0A", "%7f", "%7e", "%7F", "%21", "%23", "%24", "%ff", "%fF", "%Ff", "%FF"} {
		for _, l := range textLines(s) {
			parses(t, l)
		}
	}
}

// The lines by parts: each has its texts and numbers in their places.
var lineForms = []string{"# 1 read a", "0 # read a", "0 1 write # a=b", "0 1 write #", "0 1 ok #", "0 1 stale # a=0", "0 1 ok 0 a=#", "0 1 ok 0 a=#=x", "0 1 ok 0 a=#=x=b c=0"}

func TestNumbers(t *testing.T) {
	numbers := []string{
		"0", "1", "9", "10", "14", "15", "16", "17", "65535", "65536", "255", "256", "4294967295", "4294967296", "2147483648", "9223372036854775807", "9223372036854775808", "9223372036854775809", "18446744073709551615",
		"18446744073709551616", "18446744073709551617", "18446744073709551626", "27670116110564327424", "184467440737095516150", "340282366920938463463374607431768211456", "1" + strings.Repeat("0", 400),
		"", "00", "01", "001", "000", "010", "0" + "18446744073709551615", strings.Repeat("0", 40), strings.Repeat("0", 40) + "1", "+0", "+1", "-0", "-1", "-15", "--1", "+-1", "+", "-", "0x1", "0b1", "0o1", "1_0", "1e1", "1.0", ".1", "1.", "1,0", "a", "1a", "a1", "%31", "1%", "\t1", "1\t", "1\r", "\x001", "1\x00", "١", "¹", "１", "Inf", "NaN", "true", "٠", "0 ", " 0",
	}
	for _, form := range lineForms {
		for _, number := range numbers {
			parses(t, strings.Replace(form, "#", number, 1)+"\n")
			parses(t, "0 1 read\n"+strings.Replace(form, "#", number, 1)+"\n0 1 read\n")
		}
	}
	taken(t, list(write(15, math.MaxInt, math.MaxUint64)), "15 9223372036854775807 write 18446744073709551615\n")
	taken(t, list(answer(15, math.MaxInt, rsOK, math.MaxUint64, version("a", math.MaxUint64, "b"))), "15 9223372036854775807 ok 18446744073709551615 a=18446744073709551615=b\n")
	for _, s := range []string{"16 1 read", "0 0 read", "-1 1 read", "0 -1 read", "+0 1 read", "0 +1 read", "00 1 read", "0 01 read", "0 9223372036854775808 read", "0 18446744073709551617 read", "18446744073709551616 1 read", "4294967296 1 read", "256 1 read", "0 1 write 18446744073709551616", "0 1 write 00", "0 1 write -0", "0 1 ok 18446744073709551616", "0 1 ok 01", "0 1 ok 0 a=18446744073709551616=x", "0 1 ok 0 a=00", "0 1 ok 0 a=01=x", "0 1 ok 0 a=+1=x"} {
		refused(t, s+"\n", 1)
	}
}

func TestWords(t *testing.T) {
	results := []string{"ok", "stale", "aborted", "unknown", "invalid", "exhausted"}
	for i, word := range results {
		taken(t, list(answer(3, 4, i+1, 5)), line("3 4", word, "5"))
		taken(t, list(answer(3, 4, i+1, 0, bottom("a"))), line("3 4", word, "0 a=0"))
		refused(t, line("3 4", word), 1)
		refused(t, line("3 4", word, "a=0"), 1)
		refused(t, line("3 4", word, "5", "a"), 1)
	}
	words := append(slices.Clone(results), "write", "read", "commit", "nack", "none", "%", "0", "1", "2", "3", "=", "o", "okay", "stal", "reads", "w", "r", "answer", "")
	for _, word := range words {
		for _, w := range []string{word, strings.ToUpper(word), word + "s", "x" + word, word + "\x00", strings.ReplaceAll(word, "a", "%61"), strings.TrimSuffix(word, "d"), word + " ", " " + word, word + "\t"} {
			for _, rest := range []string{"", " 0", " 5", " a", " 0 a", " 0 a=0", " 0 a=b", " 5 a=1=x", " 0 0", " 5 5"} {
				parses(t, "3 4 "+w+rest+"\n")
			}
		}
	}
	for _, s := range []string{"0", "0 1", "0 1 ", " ", "  ", "0 ", "0 1 write", "0 1 write ", "0 1 ok ", "0 read", "read", "read 0 1", "0 1 Read", "0 1 READ", "0 1 OK 0", "0 1 writeread 0", "0 1 2 read"} {
		refused(t, s+"\n", 1)
	}
}

// richLines are lines with all that a line can have.
var richLines = []string{"0 1 read\n", "15 12 read a %3d % zz\n", "0 1 write 0\n", "3 20 write 65539 a=1 %=x%20y %c8=%\n", "0 1 ok 0\n", "9 3 exhausted 0\n", "1 2 ok 0 a=65536=1=%=a z=0 %=7=%\n", "2 1 unknown 18446744073709551615\n"}

func TestBlanks(t *testing.T) {
	for _, whole := range richLines {
		body := strings.TrimSuffix(whole, "\n")
		words := strings.Split(body, " ")
		for _, blank := range []string{"  ", "", "\t", " \t", "\u00a0", "\v", "\r", "\x00", "   ", "%20", "\u2003"} {
			for i := range words {
				s := strings.Join(words[:i], " ") + blank + strings.Join(words[i:], " ") + "\n"
				parses(t, s)
			}
			parses(t, strings.Join(words, blank)+"\n")
			parses(t, body+blank+"\n")
			parses(t, whole+blank)
			parses(t, whole+blank+"\n")
		}
		for _, s := range []string{" " + whole, "  " + whole, body + " \n", body + "  \n", body + "\r\n", body + "\t\n", "\t" + whole, "\n" + whole, strings.Replace(whole, " ", "  ", 1), "\ufeff" + whole, body + "\r", strings.Replace(whole, " ", "\t", 1)} {
			refused(t, s, 1)
		}
		refused(t, whole+" ", 2)
		refused(t, whole+"\n", 2)
		refused(t, whole+"\n"+whole, 2)
	}
}

func TestLinesCutAndTurned(t *testing.T) {
	for _, whole := range richLines {
		for i := range whole {
			refused(t, whole[:i]+"x", 1)
			if i > 0 {
				refused(t, whole[:i], 1)
			}
			parses(t, whole[i:])
			parses(t, whole[:i]+whole[i+1:])
			parses(t, whole[:i]+"\n"+whole[i:])
			parses(t, whole[:i]+"\n")
			refused(t, whole+whole[:i]+"x", 2)
			for b := range 256 {
				turned := []byte(whole)
				turned[i] = byte(b)
				parses(t, string(turned))
				parses(t, whole+string(turned)+whole)
				parses(t, whole[:i]+string([]byte{byte(b)})+whole[i:])
			}
		}
		for b := range 256 {
			parses(t, whole+string([]byte{byte(b)}))
		}
		taken(t, modelEvents(whole), whole)
	}
}

func modelEvents(s string) []api.Event {
	l, _, _ := modelParse(s)
	return l
}

func TestWhichLineIsAtFault(t *testing.T) {
	good := strings.Repeat("0 1 read a\n", 3)
	for n := range 40 {
		lines := strings.Repeat(good, n)
		at := 3*n + 1
		for _, bad := range []string{"\n", "x\n", "0 1 read", "0 1 read a\x00\n", " \n", "0 1 read  a\n", "x", "0"} {
			refused(t, lines+bad, at)
			if strings.HasSuffix(bad, "\n") {
				refused(t, lines+bad+good, at)
				refused(t, lines+bad+bad, at)
				refused(t, lines+bad+"x", at)
				refused(t, lines+bad+good+bad, at)
			}
		}
		if l, line, err := onParse(t, lines); len(l) != 3*n || line != 0 || err != ok {
			t.Errorf("P23.1: Parse of %d lines is %d events, %d, %d", 3*n, len(l), line, err)
		}
	}
	refused(t, "\n\n", 1)
	refused(t, "0 1 read\n\n\n", 2)
	refused(t, "0 1 read\n0 1 read", 2)
	refused(t, strings.Repeat("0 1 read\n", 70000)+"0 1 read", 70001)
}

func TestOf(t *testing.T) {
	l := list(read(0, 1, "a"), write(1, 1, 65537, pair("a", "b")), answer(0, 1, rsOK, 0, bottom("a")), api.Event{}, api.Event{Kind: 9, Client: 16, Txn: -4}, api.Event{Kind: -3, Client: 15, ID: 8}, api.Event{Client: -1}, api.Event{Kind: 1, Client: math.MinInt})
	mixed := api.Event{Kind: 7, Client: 15, Txn: -5, ID: 9, Pairs: []api.Pair{pair("p", "q")}, Keys: []string{"k", ""}, Answer: api.Answer{Txn: 8, Result: -8, ID: 6, Versions: []api.Version{version("v", 0, "w", "x", "y")}}}
	l = append(l, mixed, mixed)
	for _, client := range []int{-1, 0, 1, 2, 14, 15, 16, 17, 256, math.MinInt, math.MaxInt} {
		are(t, l, client)
		are(t, nil, client)
	}
	if got, err := onOf(t, l, 15); !same(got, list(l[5], mixed, mixed)) || err != ok {
		t.Errorf("P23.1: Of client 15 is %s, %d: events that may not be are told too", show(got), err)
	}
	if got, err := onOf(t, l, 0); !same(got, list(l[0], l[2], l[3])) || err != ok {
		t.Errorf("P23.1: Of client 0 is %s, %d", show(got), err)
	}
	for _, client := range []int{-1, 16} {
		if got, err := onOf(t, l, client); len(got) != 0 || err != errArg {
			t.Errorf("P23.1: Of client %d is %s, %d", client, show(got), err)
		}
	}
}

// Each list breaks just that one of Proper's six things.
func TestEachOfTheSixThings(t *testing.T) {
	w, done := write(0, 1, 65536, pair("a", "1")), answer(0, 1, rsOK, 65536)
	r := read(0, 1, "a", "b")
	told := answer(0, 1, rsOK, 0, bottom("a"), version("b", 5, "x"))
	none, no := write(0, 1, 0), answer(0, 1, rsInvalid, 0)
	for i, c := range []struct {
		rule int
		l    []api.Event
	}{
		{1, list(api.Event{})}, {1, list(r, api.Event{Kind: 4, Txn: 2})}, {1, list(read(16, 1))}, {1, list(w, answer(0, 1, 7, 65536))}, {1, list(r, told, api.Event{Kind: 2, Client: 1, Txn: 1, ID: 5})}, {1, list(r, answer(0, 1, rsOK, 0, bottom("a"), version("b", 0, "x")))},
		{2, list(read(0, 2))}, {2, list(r, read(0, 3))}, {2, list(r, read(0, 1))}, {2, list(r, told, read(0, 1))}, {2, list(read(0, 2), read(0, 1))}, {2, list(r, write(0, 1, 65536))}, {2, list(w, read(0, 3))}, {2, list(read(1, 1), read(0, 2))}, {2, list(read(0, 1), read(1, 2))}, {2, list(read(0, math.MaxInt))}, {2, list(none, no, write(0, 1, 65536))},
		{3, list(done)}, {3, list(done, w)}, {3, list(told, r)}, {3, list(w, done, done)}, {3, list(r, told, told)}, {3, list(r, told, read(1, 1), told)}, {3, list(w, answer(1, 1, rsOK, 65536))}, {3, list(w, answer(0, 2, rsOK, 65536))}, {3, list(r, answer(0, math.MaxInt, rsStale, 0))}, {3, list(none, no, no)}, {3, list(r, answer(0, 1, rsStale, 0), answer(0, 1, rsAborted, 0))}, {3, list(w, done, answer(0, 2, rsOK, 131072), write(0, 2, 131072))},
		{4, list(none)}, {4, list(none, read(1, 1), no)}, {4, list(none, read(0, 2))}, {4, list(none, write(1, 1, 0), answer(1, 1, rsInvalid, 0), no)}, {4, list(read(0, 1), write(0, 2, 0), answer(0, 1, rsOK, 0), answer(0, 2, rsInvalid, 0))}, {4, list(read(1, 1), none, answer(1, 1, rsOK, 0), no)},
		{4, list(write(0, 1, 65535))}, {4, list(write(1, 1, 1))}, {4, list(write(1, 1, 65536))}, {4, list(write(0, 1, 65537))}, {4, list(write(0, 1, math.MaxUint64))}, {4, list(write(15, 1, 65536+16))}, {4, list(write(0, 1, 131072), write(0, 2, 65536))}, {4, list(w, write(0, 2, 65536))}, {4, list(w, done, write(0, 2, 65536))}, {4, list(write(0, 1, 3*65536), write(0, 2, 0), answer(0, 2, rsInvalid, 0), write(0, 3, 2*65536))},
		{5, list(w, answer(0, 1, rsOK, 131072))}, {5, list(w, answer(0, 1, rsOK, 0))}, {5, list(w, answer(0, 1, rsOK, 65536, bottom("a")))}, {5, list(w, answer(0, 1, rsStale, 65536))}, {5, list(w, answer(0, 1, rsInvalid, 65536))}, {5, list(w, answer(0, 1, rsExhausted, 65536))}, {5, list(w, answer(0, 1, rsInvalid, 0))}, {5, list(none, answer(0, 1, rsOK, 0))}, {5, list(none, answer(0, 1, rsStale, 0))}, {5, list(none, answer(0, 1, rsAborted, 0))}, {5, list(none, answer(0, 1, rsUnknown, 0))}, {5, list(none, answer(0, 1, rsInvalid, 65536))}, {5, list(none, answer(0, 1, rsInvalid, 0, bottom("a")))},
		{6, list(r, answer(0, 1, rsOK, 65536, told.Answer.Versions...))}, {6, list(r, answer(0, 1, rsStale, 1))}, {6, list(r, answer(0, 1, rsAborted, 1))}, {6, list(r, answer(0, 1, rsInvalid, 1))}, {6, list(r, answer(0, 1, rsUnknown, 0))}, {6, list(r, answer(0, 1, rsExhausted, 0))}, {6, list(r, read(1, 1), answer(0, 1, rsInvalid, 0))}, {6, list(r, answer(0, 1, rsOK, 0))}, {6, list(r, answer(0, 1, rsOK, 0, bottom("a")))}, {6, list(r, answer(0, 1, rsOK, 0, bottom("b"), bottom("a")))}, {6, list(r, answer(0, 1, rsOK, 0, bottom("a"), bottom("b"), bottom("b")))}, {6, list(r, answer(0, 1, rsOK, 0, bottom("a"), bottom("c")))}, {6, list(r, answer(0, 1, rsStale, 0, bottom("a"), bottom("b")))}, {6, list(r, answer(0, 1, rsAborted, 0, bottom("a"), bottom("b")))}, {6, list(r, answer(0, 1, rsInvalid, 0, bottom("a"), bottom("b")))}, {6, list(read(0, 1), answer(0, 1, rsOK, 0, bottom("a")))}, {6, list(read(0, 1, "a", "a"), answer(0, 1, rsOK, 0, bottom("a")))},
	} {
		for rule, holds := range rules {
			if rule > 0 && c.rule == 1 {
				break
			}
			if holds(c.l) == (rule+1 == c.rule) {
				t.Errorf("row %d: the model's thing %d of %s is %v", i, rule+1, show(c.l), holds(c.l))
			}
		}
		if isProper(t, c.l) {
			t.Errorf("P23.1: row %d: Proper of %s is true; thing %d is broken", i, show(c.l), c.rule)
		}
		if c.rule > 1 && isProper(t, joined(c.l, list(read(7, 1)))) {
			t.Errorf("P23.1: row %d: Proper of %s is true with a read behind it", i, show(c.l))
		}
		if isProper(t, joined(list(read(7, 1)), c.l)) {
			t.Errorf("P23.1: row %d: Proper of %s is true with a read ahead of it", i, show(c.l))
		}
	}
	for i, l := range [][]api.Event{
		nil, list(w), list(w, done), list(r, told), list(none, no), list(none, answer(0, 1, rsExhausted, 0)), list(w, answer(0, 1, rsAborted, 65536)), list(w, answer(0, 1, rsUnknown, 65536)), list(r, answer(0, 1, rsStale, 0)), list(r, answer(0, 1, rsAborted, 0)), list(r, no), list(read(0, 1), answer(0, 1, rsOK, 0)), list(read(0, 1, "a", "a"), answer(0, 1, rsOK, 0, bottom("a"), version("a", 3, "x"))),
		list(write(15, 1, math.MaxUint64-65535+15)), list(w, write(0, 2, 131072), answer(0, 2, rsOK, 131072), done), list(w, none2(), answer(0, 2, rsInvalid, 0), done, write(0, 3, 131072)), list(write(3, 1, 131075), write(2, 1, 65538), w), list(r, read(1, 1), told, answer(1, 1, rsOK, 0)), list(w, read(0, 2), write(0, 3, 655360), answer(0, 3, rsOK, 655360), done, answer(0, 2, rsOK, 0)),
	} {
		if !isProper(t, l) {
			t.Errorf("P23.1: row %d: Proper of %s is false", i, show(l))
		}
	}
}

func none2() api.Event { return write(0, 2, 0) }
