package frame

import (
	"bytes"
	"encoding/binary"
	"fmt"
	"math/rand"
	"runtime"
	"slices"
	"strconv"
	"strings"
	"testing"

	"rampart/api"
)

// longest is the chapter's number, not api's: 1048576 bytes.
const longest = 1048576

// mark stands in the spare room of what is handed in.
const mark = 0xA5

// roomy is bytes with spare room, marked.
func roomy(s string) []byte {
	b := append([]byte(s), bytes.Repeat([]byte{mark}, 9)...)
	return b[:len(s)]
}

// isRoomy tells whether these bytes and their spare room are as roomy made them.
func isRoomy(b []byte, s string) bool {
	room := b[len(s) : len(s)+9]
	return string(b) == s && bytes.Count(room, []byte{mark}) == 9
}

// fill writes over bytes and their spare room.
func fill(b []byte, with byte) {
	b = b[:cap(b)]
	for i := range b {
		b[i] = with
	}
}

func spoil(b []byte) { fill(b, '!') }

// apart tells whether lists and their spare rooms are memory of their own: each is filled, and all must stay as they were filled.
func apart(lists [][]byte) bool {
	for i, b := range lists {
		fill(b, byte(i))
	}
	for i, b := range lists {
		if bytes.Count(b[:cap(b)], []byte{byte(i)}) != cap(b) {
			return false
		}
	}
	return true
}

// told is what a Split answers.
type told struct {
	bodies []string
	rest   string
	err    api.Errno
}

func (a told) is(b told) bool {
	return a.err == b.err && a.rest == b.rest && slices.Equal(a.bodies, b.bodies)
}

func (a told) String() string {
	var l []string
	for _, b := range a.bodies {
		l = append(l, short(b))
	}
	if len(l) > 9 {
		l = append(l[:9], strconv.Itoa(len(a.bodies))+" bodies in all")
	}
	return fmt.Sprintf("%s, the rest %s, %d", l, short(a.rest), int(a.err))
}

// short tells bytes, but not all of many.
func short(s string) string {
	if len(s) > 40 {
		return fmt.Sprintf("%q and on, %d bytes", s[:20], len(s))
	}
	return strconv.Quote(s)
}

// build calls Build, and spoils what it handed in ahead of looking at the answer.
func build(t *testing.T, body string) (string, api.Errno) {
	t.Helper()
	in := roomy(body)
	b, err := Build(in)
	if !isRoomy(in, body) {
		t.Fatalf("P7.4: Build(%s) changed what was handed in", short(body))
	}
	spoil(in)
	return string(b), err
}

// split calls Split, and spoils what it handed in ahead of looking at the answer.
func split(t *testing.T, stream string) told {
	t.Helper()
	in := roomy(stream)
	bodies, rest, err := Split(in)
	if !isRoomy(in, stream) {
		t.Fatalf("P7.4: Split(%s) changed what was handed in", short(stream))
	}
	spoil(in)
	a := told{rest: string(rest), err: err}
	for _, b := range bodies {
		a.bodies = append(a.bodies, string(b))
	}
	if !apart(append(slices.Clone(bodies), rest)) {
		t.Fatalf("P7.4: Split(%s): two lists share memory", short(stream))
	}
	return a
}

// The model: what the chapter says, read from a buffer.

func modelBuild(body string) string {
	return string(binary.BigEndian.AppendUint32(nil, uint32(len(body)))) + body
}

func modelSplit(stream string) told {
	var a told
	left := bytes.NewBufferString(stream)
	for left.Len() >= 4 {
		n := uint64(binary.BigEndian.Uint32(left.Bytes()[:4]))
		if n > longest {
			return told{err: api.ErrLong}
		}
		if uint64(left.Len()) < n+4 {
			break
		}
		left.Next(4)
		a.bodies = append(a.bodies, string(left.Next(int(n))))
	}
	a.rest = left.String()
	return a
}

// joined is the frames of bodies, one behind the other, by Build.
func joined(t *testing.T, bodies []string) string {
	t.Helper()
	var out strings.Builder
	for _, b := range bodies {
		f, err := build(t, b)
		if err != api.OK {
			t.Fatalf("P7.1: Build(%s): %d", short(b), int(err))
		}
		out.WriteString(f)
	}
	return out.String()
}

// check holds a Split against the model, and builds its stream again.
func check(t *testing.T, stream string) {
	t.Helper()
	got := split(t, stream)
	if want := modelSplit(stream); !got.is(want) {
		t.Fatalf("P7.1: Split(%s) = %v, want %v", short(stream), got, want)
	}
	if got.err == api.OK && joined(t, got.bodies)+got.rest != stream {
		t.Fatalf("P7.2: Split(%s) = %v, of which the stream isn't built again", short(stream), got)
	}
}

// fed splits pieces, each behind the rest of the one ahead, until one is refused.
func fed(t *testing.T, pieces []string) told {
	t.Helper()
	var all told
	for _, p := range pieces {
		a := split(t, all.rest+p)
		if a.err != api.OK {
			return told{err: a.err}
		}
		all.bodies = append(all.bodies, a.bodies...)
		all.rest = a.rest
	}
	return all
}

// cut is a stream's pieces, from each place to the next; places are in order, and one may stand twice.
func cut(stream string, places ...int) []string {
	var l []string
	from := 0
	for _, p := range places {
		l = append(l, stream[from:p])
		from = p
	}
	return append(l, stream[from:])
}

func checkPieces(t *testing.T, pieces []string) {
	t.Helper()
	stream := strings.Join(pieces, "")
	if got, want := fed(t, pieces), split(t, stream); !got.is(want) {
		t.Fatalf("P7.3: %s, cut into %d pieces: %v, in one: %v", short(stream), len(pieces), got, want)
	}
}

// checkEveryCut cuts a short stream in all ways into pieces.
func checkEveryCut(t *testing.T, stream string) {
	t.Helper()
	for ways := range 1 << max(len(stream)-1, 0) {
		var places []int
		for i := 1; i < len(stream); i++ {
			if ways>>(i-1)&1 == 1 {
				places = append(places, i)
			}
		}
		checkPieces(t, cut(stream, places...))
	}
}

// lengths around every edge of the four bytes, and around the longest.
var lengths = []uint32{0, 1, 2, 3, 4, 5, 255, 256, 257, 65535, 65536, 65537, 0x010203, longest - 1, longest,
	longest + 1, longest + 2, longest + 256, longest + 65536, 2*longest - 1, 2 * longest, 1<<24 - 1, 1 << 24, 1<<24 + 1, 1<<24 + 2,
	1<<31 - 1, 1 << 31, 1<<31 + 1, 1<<32 - 4, 1<<32 - 2, 1<<32 - 1}

func headOf(n uint32) string { return string(binary.BigEndian.AppendUint32(nil, n)) }

func TestExamples(t *testing.T) {
	for body, want := range map[string]string{"ab": "\x00\x00\x00\x02ab", "": "\x00\x00\x00\x00"} {
		if f, err := build(t, body); f != want || err != api.OK {
			t.Errorf("P7.1: Build(%q) = %q, %d", body, f, int(err))
		}
	}
	if f, err := build(t, strings.Repeat("x", 1048577)); f != "" || err != api.ErrLong {
		t.Errorf("P7.1: Build of 1048577 bytes: %s, %d", short(f), int(err))
	}
	for stream, want := range map[string]told{
		"\x00\x00\x00\x02ab\x00\x00\x00\x00\x00\x00\x00\x05a": {bodies: []string{"ab", ""}, rest: "\x00\x00\x00\x05a"},
		"\x00\x00\x00":                         {rest: "\x00\x00\x00"},
		"":                                     {},
		"\x00\x00\x00\x01a\x00\x10\x00\x01":    {err: api.ErrLong},
		"\x00\x10\x00\x00":                     {rest: "\x00\x10\x00\x00"},
		"\x00\x00\x00\x01a\x00\x10\x00\x00":    {bodies: []string{"a"}, rest: "\x00\x10\x00\x00"},
		"\xff\xff\xff\xff":                     {err: api.ErrLong},
		"\x00\x00\x00\x00\x00\x00\x00\x00":     {bodies: []string{"", ""}},
		"\x00\x00\x00\x00\xff\xff\xff\xff":     {err: api.ErrLong},
		"\x00\x00\x00\x00\xff\xff\xff":         {bodies: []string{""}, rest: "\xff\xff\xff"},
		"\x00\x00\x00\x04\xff\xff\xff\xff":     {bodies: []string{"\xff\xff\xff\xff"}},
		"\x00\x00\x00\x03\xff\xff\xff\xff":     {bodies: []string{"\xff\xff\xff"}, rest: "\xff"},
		"\x00\x00\x00\x05\xff\xff\xff\xff":     {rest: "\x00\x00\x00\x05\xff\xff\xff\xff"},
		"\x00\x10\x00\x01\x00\x00\x00\x00abcd": {err: api.ErrLong},
	} {
		if got := split(t, stream); !got.is(want) {
			t.Errorf("P7.1: Split(%q) = %v, want %v", stream, got, want)
		}
	}
}

// bodyOf is n bytes, unlike each other as far as that goes.
func bodyOf(n int) string {
	b := make([]byte, n)
	for i := range b {
		b[i] = byte(i*7 + i>>8)
	}
	return string(b)
}

func TestBuild(t *testing.T) {
	sizes := []int{longest - 1, longest}
	for _, n := range lengths {
		if n < longest {
			sizes = append(sizes, int(n))
		}
	}
	for n := range 1100 {
		sizes = append(sizes, n)
	}
	for _, n := range sizes {
		body := bodyOf(n)
		f, err := build(t, body)
		if f != modelBuild(body) || err != api.OK {
			t.Errorf("P7.1: Build of %d bytes: %s, %d", n, short(f), int(err))
		}
		if got := split(t, f); !got.is(told{bodies: []string{body}}) {
			t.Errorf("P7.2: Split of the frame of %d bytes: %v", n, got)
		}
	}
	for c := range 256 {
		body := string([]byte{byte(c)})
		if f, err := build(t, body); f != "\x00\x00\x00\x01"+body || err != api.OK {
			t.Errorf("P7.1: Build(%q) = %q, %d", body, f, int(err))
		}
	}
}

func TestBuildRefuses(t *testing.T) {
	for _, n := range []int{longest + 1, longest + 2, longest + 4, 2 * longest, 1 << 24, 1<<24 + 1, 1<<24 + longest} {
		body := strings.Repeat("b", n)
		if f, err := build(t, body); f != "" || err != api.ErrLong {
			t.Errorf("P7.1: Build of %d bytes: %s, %d", n, short(f), int(err))
		}
		if f, err := build(t, "b"); f != "\x00\x00\x00\x01b" || err != api.OK {
			t.Errorf("P7.1: behind a refused body: %q, %d", f, int(err))
		}
	}
}

// eachText calls with all texts of up to most letters.
func eachText(letters []string, most int, do func(string)) {
	var grow func(string, int)
	grow = func(s string, left int) {
		do(s)
		if left == 0 {
			return
		}
		for _, l := range letters {
			grow(s+l, left-1)
		}
	}
	grow("", most)
}

func TestAllShortStreams(t *testing.T) {
	eachText([]string{"\x00", "\x01", "\x02", "\x10", "\xff"}, 7, func(s string) { check(t, s) })
	eachText([]string{"\x00", "\x01"}, 13, func(s string) { check(t, s) })
}

// letters of streams: lengths, and bytes of bodies.
var letters = []string{headOf(0), headOf(1), headOf(2), headOf(3), headOf(5), headOf(longest), headOf(longest + 1), headOf(1 << 24), headOf(1<<32 - 1),
	"\x00", "\x00\x00", "a", "bc", "\xff\xff\xff"}

func TestStreamsOfLetters(t *testing.T) {
	eachText(letters, 4, func(s string) { check(t, s) })
}

func TestLengths(t *testing.T) {
	for _, n := range lengths {
		for _, ahead := range []string{"", modelBuild(""), modelBuild("a"), modelBuild("") + modelBuild("xyz") + modelBuild("\xff\xff\xff\xff")} {
			whole := modelSplit(ahead).bodies
			for _, behind := range []string{"", "\x00", "\xff\xff\xff", modelBuild("q")} {
				stream := ahead + headOf(n) + behind
				got := split(t, stream)
				if refused := n > longest; refused != (got.err == api.ErrLong) || refused && !got.is(told{err: api.ErrLong}) {
					t.Errorf("P7.1: the length %d behind %d frames: %v", n, len(whole), got)
				}
				if n <= longest && int(n) > len(behind) && !got.is(told{bodies: whole, rest: headOf(n) + behind}) {
					t.Errorf("P7.1: the length %d behind %d frames: %v", n, len(whole), got)
				}
				check(t, stream)
				for i := range len(headOf(n)) {
					if got := split(t, ahead+headOf(n)[:i]); !got.is(told{bodies: whole, rest: headOf(n)[:i]}) {
						t.Errorf("P7.1: %d bytes of the length %d behind %d frames: %v", i, n, len(whole), got)
					}
				}
			}
		}
	}
}

// Bodies of about the longest: a byte too few, all of them, a byte more.
func TestLongStreams(t *testing.T) {
	for _, n := range []int{longest - 1, longest, longest + 1} {
		for _, behind := range []int{n - 1, n, n + 1, n + 3, n + 4, n + 5} {
			zeros := strings.Repeat("\x00", behind)
			for _, ahead := range []string{"", modelBuild("ab")} {
				stream := ahead + headOf(uint32(n)) + zeros
				check(t, stream)
				checkPieces(t, cut(stream, 3, len(ahead)+4, len(stream)-2, len(stream)-1))
			}
		}
	}
	long := modelBuild(bodyOf(longest))
	check(t, long+modelBuild("")+long+long+headOf(longest)+"abc")
	check(t, long+long+headOf(longest+1))
}

// Many frames: each ends, whatever the last of them is.
func TestManyFrames(t *testing.T) {
	for _, body := range []string{"", "a", "abcdefghijklmnopqrstuvwxyz"} {
		const many = 200000
		frames := strings.Repeat(modelBuild(body), many)
		got := split(t, frames)
		if len(got.bodies) != many || got.rest != "" || got.err != api.OK || slices.ContainsFunc(got.bodies, func(b string) bool { return b != body }) {
			t.Errorf("P7.1: %d frames of %q: %v", many, body, got)
		}
		if got := split(t, frames+"\x00\x00\x00"); len(got.bodies) != many || got.rest != "\x00\x00\x00" || got.err != api.OK {
			t.Errorf("P7.1: %d frames of %q and three bytes: %v", many, body, got)
		}
		if got := split(t, frames+headOf(longest+1)); !got.is(told{err: api.ErrLong}) {
			t.Errorf("P7.1: %d frames of %q and a length that is too great: %v", many, body, got)
		}
	}
}

// randomBody may be frames itself.
func randomBody(g *rand.Rand) string {
	switch g.Intn(6) {
	case 0:
		return ""
	case 1:
		return headOf(lengths[g.Intn(len(lengths))])
	case 2:
		return modelBuild(bodyOf(g.Intn(9)))
	case 3:
		return bodyOf(g.Intn(70000))
	}
	b := make([]byte, g.Intn(20))
	g.Read(b)
	return string(b)
}

func randomBodies(g *rand.Rand) []string {
	l := make([]string, g.Intn(8))
	for i := range l {
		l[i] = randomBody(g)
	}
	return l
}

func TestThereAndBack(t *testing.T) {
	g := rand.New(rand.NewSource(71))
	for range 2000 {
		bodies := randomBodies(g)
		if got := split(t, joined(t, bodies)); !got.is(told{bodies: bodies}) {
			t.Fatalf("P7.2: the bodies %v came back as %v", told{bodies: bodies}, got)
		}
	}
	eachText([]string{"", "a", "\x00\x00\x00\x00", "\x00\x00\x00\x01", "\xff\xff\xff\xff\xff"}, 1, func(one string) {
		eachText([]string{"\x00", "\xff"}, 5, func(other string) {
			bodies := []string{one, other, one}
			if got := split(t, joined(t, bodies)); !got.is(told{bodies: bodies}) {
				t.Fatalf("P7.2: the bodies %q came back as %v", bodies, got)
			}
		})
	})
}

// randomStream is frames, and behind them often one that isn't whole, or none at all.
func randomStream(g *rand.Rand) string {
	var out strings.Builder
	for _, b := range randomBodies(g) {
		out.WriteString(modelBuild(b))
	}
	switch g.Intn(4) {
	case 0:
		f := modelBuild(randomBody(g))
		out.WriteString(f[:g.Intn(len(f))])
	case 1:
		out.WriteString(headOf(lengths[g.Intn(len(lengths))]) + randomBody(g))
	case 2:
		out.WriteString(randomBody(g))
	}
	return out.String()
}

func TestRandomStreams(t *testing.T) {
	g := rand.New(rand.NewSource(72))
	for range 2000 {
		check(t, randomStream(g))
	}
	for range 20000 {
		b := make([]byte, g.Intn(40))
		g.Read(b)
		check(t, string(b))
	}
}

func TestEveryCut(t *testing.T) {
	refused := 0
	for _, stream := range []string{
		"", "\x00", "\x00\x00\x00", modelBuild(""), modelBuild("a"), modelBuild("abc"),
		modelBuild("") + modelBuild("") + modelBuild(""),
		modelBuild("ab") + modelBuild("c"), modelBuild("") + modelBuild("abc"), modelBuild("abc") + modelBuild(""),
		modelBuild("ab") + "\x00\x00\x00", modelBuild("a") + headOf(longest) + "a", modelBuild("\x00\x00\x00\x01") + headOf(2) + "a",
		headOf(longest), headOf(longest) + "\xff\xff\xff\xff\xff",
		headOf(longest + 1), headOf(1<<32-1) + "ab", modelBuild("a") + headOf(longest+1), modelBuild("a") + headOf(longest+1) + modelBuild(""),
		modelBuild("") + modelBuild("\xff") + headOf(1<<32-1), modelBuild("") + headOf(1<<24) + "abcd",
	} {
		checkEveryCut(t, stream)
		if split(t, stream).err == api.ErrLong {
			refused++
		}
	}
	if refused != 6 {
		t.Errorf("P7.3: %d of the streams are refused", refused)
	}
	eachText(letters, 2, func(s string) { checkEveryCut(t, s) })
}

// Two cuts at all places of somewhat longer streams; pieces may have no bytes.
func TestTwoCuts(t *testing.T) {
	for _, stream := range []string{
		modelBuild("abc") + modelBuild("") + modelBuild(modelBuild("xy")) + headOf(9) + "12345678",
		modelBuild("abc") + modelBuild("") + headOf(longest+1) + modelBuild("later"),
		modelBuild(bodyOf(300)) + modelBuild("q"),
	} {
		for i := range len(stream) + 1 {
			for j := i; j <= len(stream); j++ {
				checkPieces(t, cut(stream, i, j))
			}
		}
	}
}

func TestByteByByte(t *testing.T) {
	for _, stream := range []string{
		modelBuild("abc") + modelBuild("") + modelBuild(bodyOf(1000)) + headOf(5) + "1234",
		modelBuild("abc") + modelBuild("") + modelBuild(bodyOf(1000)) + headOf(1<<32-1) + "1234",
	} {
		var pieces []string
		for i := range len(stream) {
			pieces = append(pieces, stream[i:i+1])
		}
		checkPieces(t, pieces)
	}
}

func TestRandomCuts(t *testing.T) {
	g := rand.New(rand.NewSource(73))
	for range 1500 {
		stream := randomStream(g)
		places := make([]int, g.Intn(12))
		for i := range places {
			places[i] = g.Intn(len(stream) + 1)
		}
		slices.Sort(places)
		checkPieces(t, cut(stream, places...))
	}
}

func TestNilAndEmpty(t *testing.T) {
	for _, none := range [][]byte{nil, {}, make([]byte, 0, 8), roomy("")} {
		if f, err := Build(none); string(f) != "\x00\x00\x00\x00" || err != api.OK {
			t.Errorf("P7.4: Build(%#v) = %q, %d", none, f, int(err))
		}
		if bodies, rest, err := Split(none); len(bodies) != 0 || len(rest) != 0 || err != api.OK {
			t.Errorf("P7.4: Split(%#v) = %q, %q, %d", none, bodies, rest, int(err))
		}
	}
}

// What two calls answer is memory of its own.
func TestAnswersShareNothing(t *testing.T) {
	in := roomy("abc")
	one, _ := Build(in)
	two, _ := Build(in)
	spoil(one)
	if string(two) != "\x00\x00\x00\x03abc" || !isRoomy(in, "abc") {
		t.Errorf("P7.4: Build: %q, and %q was handed in", two, in)
	}
	stream := modelBuild("abc") + modelBuild("") + modelBuild("de") + "\x00\x00"
	in = roomy(stream)
	first, firstRest, _ := Split(in)
	second, secondRest, _ := Split(in)
	for i, b := range first {
		first[i] = nil
		spoil(b)
	}
	spoil(firstRest)
	if !isRoomy(in, stream) {
		t.Errorf("P7.4: Split's answer is what was handed in: %q", in)
	}
	if len(second) != 3 || string(bytes.Join(second, []byte("|"))) != "abc||de" || string(secondRest) != "\x00\x00" {
		t.Errorf("P7.4: Split: %q, %q", second, secondRest)
	}
	for i, b := range second {
		second[i] = append(b, '?', '?', '?', '?', '?')
	}
	if got := string(bytes.Join(second, []byte("|"))); got != "abc?????|?????|de?????" || string(secondRest) != "\x00\x00" {
		t.Errorf("P7.4: bodies that are made longer: %q, %q", got, secondRest)
	}
}

func heap() uint64 {
	var m runtime.MemStats
	runtime.GC()
	runtime.ReadMemStats(&m)
	return m.HeapAlloc
}

// Bodies and rests without bytes don't hold on to what was handed in.
func TestNothingIsKept(t *testing.T) {
	const size = 4 << 20
	var kept [][]byte
	before := heap()
	for range 16 {
		b := make([]byte, 4, size)
		bodies, rest, _ := Split(b)
		kept = append(append(kept, bodies...), rest)
		_, rest, _ = Split(b[:0])
		kept = append(kept, rest)
		f, _ := Build(b[:2])
		kept = append(kept, f)
	}
	if after := heap(); after > before+4*size {
		t.Errorf("P7.4: what was handed in is kept: %d bytes more", after-before)
	}
	runtime.KeepAlive(kept)
}

// A refused call leaves nothing behind, and neither does a stream that isn't whole.
func TestCallsKnowNothingOfEachOther(t *testing.T) {
	whole := modelBuild("ab") + "\x00"
	for _, ahead := range []string{"\x00\x00\x00\x02a", headOf(longest + 1), modelBuild("xyz") + headOf(1<<32-1), "\x00\x00\x00", modelBuild("q")} {
		split(t, ahead)
		if got := split(t, whole); !got.is(told{bodies: []string{"ab"}, rest: "\x00"}) {
			t.Errorf("P7.1: behind Split(%q): %v", ahead, got)
		}
	}
}
