package sum

import (
	"bytes"
	"hash/crc32"
	"hash/fnv"
	"math"
	"math/rand"
	"strings"
	"testing"
)

// The answers by the chapter's words, bit by bit, with nothing of the package in them.

func slowStep(r uint32) uint32 {
	for range 8 {
		out := r & 1
		r >>= 1
		if out == 1 {
			r ^= 0xEDB88320
		}
	}
	return r
}

func slowUpdate(s uint32, b []byte) uint32 {
	r := s ^ 0xFFFFFFFF
	for _, c := range b {
		r = slowStep(r ^ uint32(c))
	}
	return r ^ 0xFFFFFFFF
}

func slowJoin(a, b uint32, n int) uint32 {
	for i := 0; i < n; i++ {
		a = slowStep(a)
	}
	return a ^ b
}

func slowFeed(h uint64, s string) uint64 {
	for _, c := range []byte(s) {
		h ^= uint64(c)
		h *= 1099511628211
	}
	return h
}

// matrixJoin is Join by squared matrices of bits: another way than the package's, and quick at a great n too.
func matrixJoin(a, b uint32, n int) uint32 {
	apply := func(m [32]uint32, v uint32) uint32 {
		var out uint32
		for i := range m {
			if v>>i&1 == 1 {
				out ^= m[i]
			}
		}
		return out
	}
	var m [32]uint32
	for i := range m {
		m[i] = slowStep(1 << i)
	}
	for ; n > 0; n >>= 1 {
		if n&1 == 1 {
			a = apply(m, a)
		}
		var square [32]uint32
		for i := range m {
			square[i] = apply(m, m[i])
		}
		m = square
	}
	return a ^ b
}

func newRand() *rand.Rand { return rand.New(rand.NewSource(1)) }

func someBytes(r *rand.Rand, n int) []byte {
	b := make([]byte, n)
	r.Read(b)
	return b
}

var greatCounts = []int{1 << 20, 1<<31 - 1, 1<<31 + 1, 1<<32 - 2, 1<<32 - 1, 1 << 32, 1<<40 + 12345, 1 << 62, math.MaxInt - 1, math.MaxInt}

func TestSumExamples(t *testing.T) {
	for _, c := range []struct {
		b    []byte
		want uint32
	}{
		{nil, 0},
		{[]byte{}, 0},
		{[]byte{0}, 0xD202EF8D},
		{[]byte("123456789"), 0xCBF43926},
		{[]byte("a"), 0xE8B7BE43},
		{[]byte{0xFF, 0xFF, 0xFF, 0xFF}, 0xFFFFFFFF},
	} {
		if got := Sum(c.b); got != c.want {
			t.Errorf("P1.1: Sum(%q) = %#x, want %#x", c.b, got, c.want)
		}
	}
	if got := Update(Sum([]byte("1234")), []byte("56789")); got != 0xCBF43926 {
		t.Errorf("P1.1: Update goes on to %#x", got)
	}
}

func TestSumOfEveryByte(t *testing.T) {
	for c := range 256 {
		b := []byte{byte(c)}
		if got, want := Sum(b), slowUpdate(0, b); got != want {
			t.Errorf("P1.1: Sum(%#x) = %#x, want %#x", c, got, want)
		}
	}
}

func TestSumOfManyLengths(t *testing.T) {
	r := newRand()
	for n := range 600 {
		b := someBytes(r, n)
		got := Sum(b)
		if got != slowUpdate(0, b) || got != crc32.ChecksumIEEE(b) {
			t.Fatalf("P1.1: Sum of %d bytes = %#x, want %#x", n, got, slowUpdate(0, b))
		}
	}
	b := someBytes(r, 1<<20+3)
	if got, want := Sum(b), crc32.ChecksumIEEE(b); got != want {
		t.Errorf("P1.1: Sum of many bytes = %#x, want %#x", got, want)
	}
}

func TestUpdateFromAnyRegister(t *testing.T) {
	r := newRand()
	registers := []uint32{0, 1, 0x80000000, 0x7FFFFFFF, 0xFFFFFFFE, 0xFFFFFFFF, 0xEDB88320}
	for range 200 {
		registers = append(registers, r.Uint32())
	}
	for _, s := range registers {
		if got := Update(s, nil); got != s {
			t.Errorf("P1.1: Update(%#x, none) = %#x", s, got)
		}
		b := someBytes(r, 1+r.Intn(40))
		if got, want := Update(s, b), slowUpdate(s, b); got != want {
			t.Errorf("P1.1: Update(%#x, %x) = %#x, want %#x", s, b, got, want)
		}
	}
}

func TestJoinExamples(t *testing.T) {
	if got := Join(Sum([]byte("1234")), Sum([]byte("56789")), 5); got != 0xCBF43926 {
		t.Errorf("P1.1: Join of the example = %#x", got)
	}
	r := newRand()
	for range 100 {
		a, b := r.Uint32(), r.Uint32()
		if got := Join(a, 0, 0); got != a {
			t.Errorf("P1.1: Join(%#x, 0, 0) = %#x", a, got)
		}
		if got := Join(a, b, 0); got != a^b {
			t.Errorf("P1.1: Join(%#x, %#x, 0) = %#x", a, b, got)
		}
	}
}

func TestJoinBelowNothing(t *testing.T) {
	a, b := uint32(0x12345678), uint32(0x9ABCDEF0)
	for _, n := range []int{-1, -2, -3, -8, -1 << 31, -1<<32 + 1, -1 << 40, -math.MaxInt, math.MinInt} {
		if got := Join(a, b, n); got != a^b {
			t.Errorf("P1.1: Join(a, b, %d) = %#x, want %#x", n, got, a^b)
		}
	}
}

func TestJoinStepByStep(t *testing.T) {
	r := newRand()
	for n := range 700 {
		a, b := r.Uint32(), r.Uint32()
		if got, want := Join(a, b, n), slowJoin(a, b, n); got != want {
			t.Fatalf("P1.1: Join(%#x, %#x, %d) = %#x, want %#x", a, b, n, got, want)
		}
	}
	for bit := range 32 {
		a := uint32(1) << bit
		if got, want := Join(a, 0, 1), slowJoin(a, 0, 1); got != want {
			t.Errorf("P1.1: Join(%#x, 0, 1) = %#x, want %#x", a, got, want)
		}
	}
	if got, want := Join(0xDEADBEEF, 7, 1000003), slowJoin(0xDEADBEEF, 7, 1000003); got != want {
		t.Errorf("P1.1: Join of 1000003 steps = %#x, want %#x", got, want)
	}
}

// A Join that took its n steps one by one would never end here.
func TestJoinOfGreatCounts(t *testing.T) {
	r := newRand()
	counts := append([]int{}, greatCounts...)
	for range 200 {
		counts = append(counts, int(r.Uint64()>>1))
	}
	for _, n := range counts {
		a, b := r.Uint32(), r.Uint32()
		if got, want := Join(a, b, n), matrixJoin(a, b, n); got != want {
			t.Errorf("P1.1: Join(%#x, %#x, %d) = %#x, want %#x", a, b, n, got, want)
		}
		if got := Join(0, b, n); got != b {
			t.Errorf("P1.1: Join(0, %#x, %d) = %#x", b, n, got)
		}
	}
}

func TestHashExamples(t *testing.T) {
	for _, c := range []struct {
		s    string
		want uint64
	}{
		{"", 14695981039346656037},
		{"", 0xcbf29ce484222325},
		{"a", 0xaf63dc4c8601ec8c},
		{"foobar", 0x85944171f73967e8},
	} {
		if got := Hash(c.s); got != c.want {
			t.Errorf("P1.1: Hash(%q) = %#x, want %#x", c.s, got, c.want)
		}
	}
	if got := Begin(); got != 0xcbf29ce484222325 {
		t.Errorf("P1.1: Begin() = %#x", got)
	}
	if got := Feed(Hash("fo"), "obar"); got != 0x85944171f73967e8 {
		t.Errorf("P1.1: Feed goes on to %#x", got)
	}
}

func TestHashOfAnyBytes(t *testing.T) {
	r := newRand()
	texts := []string{"\x00", "\xff", "\xc3\x28", "\xed\xa0\x80", "grün", "日本", strings.Repeat("k", 65535)}
	for c := range 256 {
		texts = append(texts, string([]byte{byte(c)}))
	}
	for n := range 200 {
		texts = append(texts, string(someBytes(r, n)))
	}
	for _, s := range texts {
		f := fnv.New64a()
		f.Write([]byte(s))
		got := Hash(s)
		if got != slowFeed(14695981039346656037, s) || got != f.Sum64() {
			t.Errorf("P1.1: Hash(%.40q) = %#x, want %#x", s, got, f.Sum64())
		}
	}
}

func TestFeedFromAnyHash(t *testing.T) {
	r := newRand()
	hashes := []uint64{0, 1, 1 << 63, math.MaxUint64, 0xcbf29ce484222325}
	for range 200 {
		hashes = append(hashes, r.Uint64())
	}
	for _, h := range hashes {
		if got := Feed(h, ""); got != h {
			t.Errorf("P1.1: Feed(%#x, none) = %#x", h, got)
		}
		s := string(someBytes(r, 1+r.Intn(40)))
		if got, want := Feed(h, s), slowFeed(h, s); got != want {
			t.Errorf("P1.1: Feed(%#x, %q) = %#x, want %#x", h, s, got, want)
		}
	}
}

func TestPieces(t *testing.T) {
	r := newRand()
	for _, n := range []int{0, 1, 2, 7, 64, 255, 256, 257} {
		b := someBytes(r, n)
		whole, hash := Sum(b), Hash(string(b))
		for i := range n + 1 {
			x, y := b[:i], b[i:]
			if Update(Sum(x), y) != whole {
				t.Errorf("P1.2: %d bytes cut at %d: Update", n, i)
			}
			if Join(Sum(x), Sum(y), len(y)) != whole {
				t.Errorf("P1.2: %d bytes cut at %d: Join", n, i)
			}
			if Feed(Hash(string(x)), string(y)) != hash {
				t.Errorf("P1.2: %d bytes cut at %d: Feed", n, i)
			}
		}
	}
}

func TestPiecesOfManyBytes(t *testing.T) {
	r := newRand()
	b := someBytes(r, 300000)
	whole := Sum(b)
	for _, i := range []int{0, 1, 65535, 65536, 150001, 299999, 300000} {
		if Update(Sum(b[:i]), b[i:]) != whole || Join(Sum(b[:i]), Sum(b[i:]), len(b)-i) != whole {
			t.Errorf("P1.2: 300000 bytes cut at %d", i)
		}
	}
}

func TestJoinOfThree(t *testing.T) {
	r := newRand()
	check := func(n, m int) {
		t.Helper()
		a, b, c := r.Uint32(), r.Uint32(), r.Uint32()
		if left, right := Join(Join(a, b, n), c, m), Join(a, Join(b, c, m), n+m); left != right {
			t.Errorf("P1.2: n %d, m %d: %#x from the left, %#x from the right", n, m, left, right)
		}
	}
	for n := range 20 {
		for m := range 20 {
			check(n, m)
		}
	}
	for _, n := range greatCounts {
		check(n, 0)
		check(0, n)
		check(n, math.MaxInt-n)
		check(r.Intn(1<<30), n/2)
	}
	for range 200 {
		n := int(r.Uint64() >> 1)
		check(n, int(r.Uint64()>>1)%(math.MaxInt-n+1))
	}
}

// turned is b with the bits of a pattern turned, from bit number at on, counted from the lowest of each byte.
func turned(b []byte, at int, pattern uint32) []byte {
	out := bytes.Clone(b)
	for i := range 32 {
		if place := at + i; pattern>>i&1 == 1 {
			out[place/8] ^= 1 << (place % 8)
		}
	}
	return out
}

func TestBursts(t *testing.T) {
	r := newRand()
	for _, n := range []int{4, 5, 8, 33, 200} {
		b := someBytes(r, n)
		whole := Sum(b)
		for at := range 8*n - 31 {
			patterns := []uint32{0xFFFFFFFF, 0x80000001, 0xEDB88320, 0xDB710641, 0x04C11DB7}
			for i := range 32 {
				patterns = append(patterns, 1<<i, 1|1<<i, r.Uint32()|1)
			}
			for _, p := range patterns {
				if Sum(turned(b, at, p)) == whole {
					t.Fatalf("P1.3: %d bytes, burst %#x at bit %d: the Sums are alike", n, p, at)
				}
			}
		}
	}
}

func TestBurstsOfFewBytes(t *testing.T) {
	seen := map[uint32]int{}
	for v := range 1 << 16 {
		s := Sum([]byte{byte(v), byte(v >> 8)})
		if other, ok := seen[s]; ok {
			t.Fatalf("P1.3: %#x and %#x have one Sum", v, other)
		}
		seen[s] = v
	}
}

// 33 bits one behind the other are the shortest that may be alike: the edge of the promise.
func TestBurstOfOneBitMore(t *testing.T) {
	a := make([]byte, 5)
	b := []byte{0x41, 0x06, 0x71, 0xDB, 0x01}
	if Sum(a) != Sum(b) {
		t.Error("P1.3: the divisor itself must vanish")
	}
}

func TestStraight(t *testing.T) {
	r := newRand()
	for n := range 300 {
		a, b, c := someBytes(r, n), someBytes(r, n), someBytes(r, n)
		mix := make([]byte, n)
		for i := range mix {
			mix[i] = a[i] ^ b[i] ^ c[i]
		}
		if got, want := Sum(mix), Sum(a)^Sum(b)^Sum(c); got != want {
			t.Errorf("P1.4: %d bytes: %#x, want %#x", n, got, want)
		}
	}
}

func TestNothingIsChanged(t *testing.T) {
	room := someBytes(newRand(), 64)
	was := bytes.Clone(room)
	b := room[8:24]
	Sum(b)
	Update(0x12345678, b)
	if !bytes.Equal(room, was) {
		t.Error("P1.5: what was handed in, or its spare room, is changed")
	}
}

func TestNothingIsKept(t *testing.T) {
	b := []byte("123456789")
	first, other := Sum(b), Update(99, b)
	hash := Hash("123456789")
	for i := range b {
		b[i] = 0
	}
	Sum(b)
	Update(7, b)
	Join(1, 2, 3)
	Hash("else")
	if Sum([]byte("123456789")) != first || Update(99, []byte("123456789")) != other || Hash("123456789") != hash {
		t.Error("P1.5: an answer hangs on what was handed in before")
	}
	if first != 0xCBF43926 || Sum(nil) != 0 || Begin() != 0xcbf29ce484222325 {
		t.Error("P1.5: a beginning hangs on what was handed in before")
	}
}
