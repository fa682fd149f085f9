package shard

import (
	"hash/fnv"
	"math"
	"math/big"
	"math/rand"
	"slices"
	"strconv"
	"strings"
	"testing"

	"rampart/api"
)

// texts are some keys of all kinds: longer than a request's may be, of bytes that are no runes, and alike but for one byte.
var texts = []string{"", "a", "b", "A", "aa", "ab", "ba", "\x00", "\x00\x00", "\x7f", "\x80", "\xff", "\xff\xff", "ä", "\uffff", "\U00010000",
	" ", "key", "key\x00", "Key", long(255), long(256), long(65535), long(65536), long(65537), long(1 << 18)}

// wrong are numbers of partitions that there may not be.
var wrong = []int{0, -1, -2, -3, -63, -64, -65, 65, 66, 127, 128, 256, 1 << 16, 1 << 31, 1<<31 + 4, math.MaxInt, math.MaxInt - 3, math.MinInt, math.MinInt + 4}

func long(n int) string { return strings.Repeat("x", n) }

// numbered are n keys, each once.
func numbered(n int) []string {
	var l []string
	for i := range n {
		l = append(l, "k"+strconv.Itoa(i))
	}
	return l
}

// pairsOf has for each key a value that tells where it stood.
func pairsOf(l []string) []api.Pair {
	var pairs []api.Pair
	for i, k := range l {
		pairs = append(pairs, api.Pair{Key: k, Value: "v" + strconv.Itoa(i)})
	}
	return pairs
}

// The model: what the chapter says, without package sum and with numbers of any size.

func modelOf(key string, parts int) int {
	h := fnv.New64a()
	h.Write([]byte(key))
	rest := new(big.Int).Mod(new(big.Int).SetBytes(h.Sum(nil)), big.NewInt(int64(parts)))
	return int(rest.Int64())
}

// modelGroup asks each partition in turn what of the pairs is its own.
func modelGroup(pairs []api.Pair, parts int) []PairPart {
	places := make([]int, len(pairs))
	for i, p := range pairs {
		places[i] = modelOf(p.Key, parts)
	}
	var out []PairPart
	for n := range parts {
		var own []api.Pair
		for i, p := range pairs {
			if places[i] == n {
				own = append(own, p)
			}
		}
		if own != nil {
			out = append(out, PairPart{Part: n, Pairs: own})
		}
	}
	return out
}

func names(l []api.Pair) []string {
	var out []string
	for _, p := range l {
		out = append(out, p.Key)
	}
	return out
}

func sameParts(a, b []Part) bool {
	return slices.EqualFunc(a, b, func(x, y Part) bool { return x.Part == y.Part && slices.Equal(x.Keys, y.Keys) })
}

func samePairParts(a, b []PairPart) bool {
	return slices.EqualFunc(a, b, func(x, y PairPart) bool { return x.Part == y.Part && slices.Equal(x.Pairs, y.Pairs) })
}

func withoutValues(l []PairPart) []Part {
	var out []Part
	for _, p := range l {
		out = append(out, Part{Part: p.Part, Keys: names(p.Pairs)})
	}
	return out
}

// short tells a key without a long one's bytes.
func short(key string) string {
	if len(key) > 24 {
		return strconv.Itoa(len(key)) + " bytes"
	}
	return strconv.Quote(key)
}

func checkOf(t *testing.T, key string, parts int) {
	t.Helper()
	n, err := Of(key, parts)
	if err != api.OK || n != modelOf(key, parts) {
		t.Errorf("P5.1: Of(%s, %d) = %d, %d, want %d", short(key), parts, n, int(err), modelOf(key, parts))
	}
	if again, err := Of(strings.Clone(key), parts); err != api.OK || again != n {
		t.Errorf("P5.2: Of(%s, %d) = %d, then %d, %d", short(key), parts, n, again, int(err))
	}
}

// checkDealt holds a Group against the keys and Of alone.
func checkDealt(t *testing.T, keys []string, parts int, l []Part) {
	t.Helper()
	total := 0
	times := map[string]int{}
	for i, p := range l {
		if i > 0 && l[i-1].Part >= p.Part || p.Part < 0 || p.Part >= parts {
			t.Errorf("P5.2: of %d keys by %d: the number %d stands at %d", len(keys), parts, p.Part, i)
		}
		if len(p.Keys) == 0 {
			t.Errorf("P5.2: of %d keys by %d: the list of %d is empty", len(keys), parts, p.Part)
		}
		from := 0
		for _, k := range p.Keys {
			if n, err := Of(k, parts); err != api.OK || n != p.Part {
				t.Errorf("P5.2: of %d keys by %d: %s stands at %d, Of is %d, %d", len(keys), parts, short(k), p.Part, n, int(err))
			}
			at := slices.Index(keys[from:], k)
			if at < 0 {
				t.Fatalf("P5.2: of %d keys by %d: %s stands not as it stood", len(keys), parts, short(k))
			}
			from += at + 1
			times[k]++
			total++
		}
	}
	if total != len(keys) {
		t.Errorf("P5.2: of %d keys by %d: %d are dealt", len(keys), parts, total)
	}
	for _, k := range keys {
		times[k]--
	}
	for k, n := range times {
		if n != 0 {
			t.Errorf("P5.2: of %d keys by %d: %s stands %d times too often", len(keys), parts, short(k), n)
		}
	}
}

func checkGroups(t *testing.T, keys []string, parts int) {
	t.Helper()
	pairs := pairsOf(keys)
	want := modelGroup(pairs, parts)
	l, err := Group(keys, parts)
	if err != api.OK || !sameParts(l, withoutValues(want)) {
		t.Errorf("P5.1: Group of %d keys by %d: %d partitions, %d", len(keys), parts, len(l), int(err))
	}
	p, err := GroupPairs(pairs, parts)
	if err != api.OK || !samePairParts(p, want) {
		t.Errorf("P5.1: GroupPairs of %d pairs by %d: %d partitions, %d", len(keys), parts, len(p), int(err))
	}
	checkDealt(t, keys, parts, l)
	checkDealt(t, keys, parts, withoutValues(p))
}

func TestOfAllParts(t *testing.T) {
	for _, k := range append(numbered(200), texts...) {
		for parts := 1; parts <= 64; parts++ {
			checkOf(t, k, parts)
		}
	}
}

func TestOfRandomTexts(t *testing.T) {
	r := rand.New(rand.NewSource(5))
	for range 5000 {
		b := make([]byte, r.Intn(40))
		r.Read(b)
		checkOf(t, string(b), 1+r.Intn(64))
	}
}

// The hash has no sign: of many keys half have its highest bit, and no partition goes without keys.
func TestOfReachesAll(t *testing.T) {
	for parts := 1; parts <= 64; parts++ {
		seen := make([]bool, parts)
		for _, k := range numbered(3000) {
			n, err := Of(k, parts)
			if err != api.OK || n < 0 || n >= parts {
				t.Fatalf("P5.1: Of(%s, %d) = %d, %d", short(k), parts, n, int(err))
			}
			seen[n] = true
		}
		if at := slices.Index(seen, false); at >= 0 {
			t.Errorf("P5.1: no key of 3000 by %d is in %d", parts, at)
		}
	}
}

func TestWrongParts(t *testing.T) {
	for _, parts := range wrong {
		for _, k := range texts {
			if n, err := Of(k, parts); n != 0 || err != api.ErrArg {
				t.Errorf("P5.1: Of(%s, %d) = %d, %d, want 0, ErrArg", short(k), parts, n, int(err))
			}
		}
		for _, keys := range [][]string{nil, {}, {""}, {"a"}, {"b", "a", "", "b"}, texts} {
			if l, err := Group(keys, parts); len(l) > 0 || err != api.ErrArg {
				t.Errorf("P5.1: Group of %d keys by %d: %d partitions, %d, want none, ErrArg", len(keys), parts, len(l), int(err))
			}
			if l, err := GroupPairs(pairsOf(keys), parts); len(l) > 0 || err != api.ErrArg {
				t.Errorf("P5.1: GroupPairs of %d pairs by %d: %d partitions, %d, want none, ErrArg", len(keys), parts, len(l), int(err))
			}
		}
	}
}

func TestGroupsOfNone(t *testing.T) {
	for parts := 1; parts <= 64; parts++ {
		for _, keys := range [][]string{nil, {}, make([]string, 0, 4)} {
			if l, err := Group(keys, parts); len(l) > 0 || err != api.OK {
				t.Errorf("P5.1: Group of none by %d: %d partitions, %d", parts, len(l), int(err))
			}
		}
		for _, pairs := range [][]api.Pair{nil, {}, make([]api.Pair, 0, 4)} {
			if l, err := GroupPairs(pairs, parts); len(l) > 0 || err != api.OK {
				t.Errorf("P5.1: GroupPairs of none by %d: %d partitions, %d", parts, len(l), int(err))
			}
		}
	}
}

func TestGroupsAtTheEdges(t *testing.T) {
	turned := slices.Clone(texts)
	slices.Reverse(turned)
	for _, keys := range [][]string{{""}, {"", ""}, {"a"}, {"a", "a", "a"}, {"a", "b"}, {"b", "a"}, {"b", "a", "", "b"}, {"a", "b", "a", "b", "a"},
		{long(65536)}, {long(1 << 18), "", long(1 << 18)}, texts, turned, slices.Concat(texts, turned), numbered(63), numbered(64), numbered(65)} {
		for parts := 1; parts <= 64; parts++ {
			checkGroups(t, keys, parts)
		}
	}
}

// A list of shard may be longer than that of a request.
func TestGroupsOfMany(t *testing.T) {
	for _, n := range []int{1023, 1024, 1025, 3000} {
		for _, parts := range []int{1, 2, 3, 7, 16, 63, 64} {
			checkGroups(t, numbered(n), parts)
		}
	}
}

func TestRandomGroups(t *testing.T) {
	r := rand.New(rand.NewSource(52))
	some := append(numbered(20), texts[:20]...)
	for range 2000 {
		var keys []string
		for range r.Intn(30) {
			keys = append(keys, some[r.Intn(len(some))])
		}
		checkGroups(t, keys, 1+r.Intn(64))
	}
}

// Pairs of one key, whatever their values, stand as they stood; a value tells nothing of the partition.
func TestPairsOfOneKey(t *testing.T) {
	pairs := []api.Pair{{Key: "a", Value: "2"}, {Key: "b", Value: "a"}, {Key: "a", Value: "1"}, {Key: "a", Value: "2"}, {Key: "", Value: "b"}, {Key: "a"}, {Key: "b", Value: long(70000)}}
	for parts := 1; parts <= 64; parts++ {
		if l, err := GroupPairs(pairs, parts); err != api.OK || !samePairParts(l, modelGroup(pairs, parts)) {
			t.Errorf("P5.2: GroupPairs by %d: %d partitions, %d", parts, len(l), int(err))
		}
	}
}

func TestOnePart(t *testing.T) {
	for _, k := range append(numbered(500), texts...) {
		if n, err := Of(k, 1); n != 0 || err != api.OK {
			t.Errorf("P5.3: Of(%s, 1) = %d, %d", short(k), n, int(err))
		}
	}
	for _, keys := range [][]string{{""}, {"b", "a", "", "b"}, texts, numbered(1500)} {
		l, err := Group(keys, 1)
		if err != api.OK || len(l) != 1 || l[0].Part != 0 || !slices.Equal(l[0].Keys, keys) {
			t.Errorf("P5.3: Group of %d keys by 1: %d partitions, %d", len(keys), len(l), int(err))
		}
		p, err := GroupPairs(pairsOf(keys), 1)
		if err != api.OK || len(p) != 1 || p[0].Part != 0 || !slices.Equal(p[0].Pairs, pairsOf(keys)) {
			t.Errorf("P5.3: GroupPairs of %d pairs by 1: %d partitions, %d", len(keys), len(p), int(err))
		}
	}
}

// roomy is a list with marked spare room behind it.
func roomy[T any](l []T, mark T) []T {
	out := make([]T, len(l), len(l)+8)
	copy(out, l)
	for i := range 8 {
		out[:cap(out)][len(l)+i] = mark
	}
	return out
}

// sameRoom tells whether a roomy list and its room are as they were.
func sameRoom[T comparable](l, was []T, mark T) bool {
	for i, k := range l[:cap(l)] {
		if i < len(was) && k != was[i] || i >= len(was) && k != mark {
			return false
		}
	}
	return true
}

// spoil writes over a list and all of its spare room.
func spoil[T any](l []T, with T) {
	all := l[:cap(l)]
	for i := range all {
		all[i] = with
	}
}

// sample are lists of keys for the tests of memory, by numbers of partitions that deal them to one, to some and to many.
func sample() [][]string {
	return [][]string{nil, {"a"}, {"a", "a"}, {"b", "a", "", "b"}, numbered(5), numbered(9), numbered(64), numbered(1024), texts}
}

func TestMemoryOfGroup(t *testing.T) {
	for _, was := range sample() {
		for _, parts := range []int{0, 1, 2, 4, 63, 64, 65} {
			keys := roomy(was, "room")
			first, _ := Group(keys, parts)
			second, _ := Group(keys, parts)
			if !sameRoom(keys, was, "room") {
				t.Fatalf("P5.4: Group by %d changed %d keys", parts, len(was))
			}
			var kept []Part
			for _, p := range first {
				kept = append(kept, Part{Part: p.Part, Keys: slices.Clone(p.Keys)})
			}
			for i := range second {
				spoil(second[i].Keys, "spoilt")
			}
			spoil(second, Part{Part: -1})
			if !sameRoom(keys, was, "room") {
				t.Errorf("P5.4: Group of %d keys by %d shares what came in", len(was), parts)
			}
			spoil(keys, "spoilt")
			if !sameParts(first, kept) {
				t.Errorf("P5.4: Group of %d keys by %d shares memory", len(was), parts)
			}
			for i := range first {
				spoil(first[i].Keys, "spoilt")
				if !sameParts(first[i+1:], kept[i+1:]) {
					t.Errorf("P5.4: Group of %d keys by %d: list %d shares memory with one behind it", len(was), parts, i)
				}
			}
		}
	}
}

func TestMemoryOfGroupPairs(t *testing.T) {
	room, spoilt := api.Pair{Key: "room", Value: "room"}, api.Pair{Key: "spoilt", Value: "spoilt"}
	for _, keys := range sample() {
		was := pairsOf(keys)
		for _, parts := range []int{0, 1, 2, 4, 63, 64, 65} {
			pairs := roomy(was, room)
			first, _ := GroupPairs(pairs, parts)
			second, _ := GroupPairs(pairs, parts)
			if !sameRoom(pairs, was, room) {
				t.Fatalf("P5.4: GroupPairs by %d changed %d pairs", parts, len(was))
			}
			var kept []PairPart
			for _, p := range first {
				kept = append(kept, PairPart{Part: p.Part, Pairs: slices.Clone(p.Pairs)})
			}
			for i := range second {
				spoil(second[i].Pairs, spoilt)
			}
			spoil(second, PairPart{Part: -1})
			if !sameRoom(pairs, was, room) {
				t.Errorf("P5.4: GroupPairs of %d pairs by %d shares what came in", len(was), parts)
			}
			spoil(pairs, spoilt)
			if !samePairParts(first, kept) {
				t.Errorf("P5.4: GroupPairs of %d pairs by %d shares memory", len(was), parts)
			}
			for i := range first {
				spoil(first[i].Pairs, spoilt)
				if !samePairParts(first[i+1:], kept[i+1:]) {
					t.Errorf("P5.4: GroupPairs of %d pairs by %d: list %d shares memory with one behind it", len(was), parts, i)
				}
			}
		}
	}
}

// Lists of an answer may be grown without reaching into each other.
func TestAppendToLists(t *testing.T) {
	for _, keys := range sample() {
		for _, parts := range []int{2, 4, 64} {
			l, _ := Group(keys, parts)
			p, _ := GroupPairs(pairsOf(keys), parts)
			for i := range l {
				l[i].Keys = append(l[i].Keys, "more")
			}
			for i := range p {
				p[i].Pairs = append(p[i].Pairs, api.Pair{Key: "more"})
			}
			for i, want := range modelGroup(pairsOf(keys), parts) {
				if !slices.Equal(l[i].Keys, append(names(want.Pairs), "more")) || !slices.Equal(p[i].Pairs, append(want.Pairs, api.Pair{Key: "more"})) {
					t.Errorf("P5.4: of %d by %d: list %d was reached by another", len(keys), parts, i)
				}
			}
		}
	}
}

func TestExamples(t *testing.T) {
	for _, c := range []struct {
		key      string
		parts, n int
	}{{"", 1, 0}, {"", 64, 37}, {"", 16, 5}, {"a", 64, 12}, {"a", 4, 0}, {"b", 64, 37}, {"b", 4, 1}} {
		if n, err := Of(c.key, c.parts); n != c.n || err != api.OK {
			t.Errorf("P5.1: example 1: Of(%q, %d) = %d, %d", c.key, c.parts, n, int(err))
		}
	}
	l, err := Group([]string{"b", "a", "", "b"}, 4)
	if err != api.OK || !sameParts(l, []Part{{Part: 0, Keys: []string{"a"}}, {Part: 1, Keys: []string{"b", "", "b"}}}) {
		t.Errorf("P5.1: example 2: %v, %d", l, int(err))
	}
	if l, err := Group(nil, 4); err != api.OK || len(l) > 0 {
		t.Errorf("P5.1: example 2: %v, %d", l, int(err))
	}
	for _, parts := range []int{0, 65, -1} {
		if n, err := Of("a", parts); n != 0 || err != 1 {
			t.Errorf("P5.1: example 3: Of(a, %d) = %d, %d", parts, n, int(err))
		}
	}
	if l, err := Group(nil, 0); len(l) > 0 || err != 1 {
		t.Errorf("P5.1: example 3: %v, %d", l, int(err))
	}
}
