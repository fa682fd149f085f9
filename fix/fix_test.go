package fix

import (
	"fmt"
	"math/rand"
	"slices"
	"strings"
	"testing"

	"rampart/api"
)

// The chapter's numbers, not api's.
const (
	one    = api.ID(65536)
	two    = api.ID(131072)
	three  = api.ID(196608)
	lastID = api.ID(1<<64 - 1)
	maxSet = 1024

	errArg  = api.Errno(1)
	errNone = api.Errno(110)
)

// Versions and lists of them.

type list = []api.Version

func by(key string, id api.ID, keys ...string) api.Version {
	return api.Version{Key: key, ID: id, Value: fmt.Sprint(key, " of ", id), Keys: keys}
}

func bottom(key string) api.Version { return api.Version{Key: key} }

// v is a version of the examples' writes, 65536 of a b, 131072 of b c, or bottom.
func v(key string, id api.ID) api.Version {
	switch id {
	case one:
		return by(key, id, "a", "b")
	case two:
		return by(key, id, "b", "c")
	}
	return api.Version{Key: key, ID: id}
}

func want(key string, id api.ID) api.Want { return api.Want{Key: key, ID: id} }

func valued(v api.Version, value string) api.Version {
	v.Value = value
	return v
}

// named are n keys, rising.
func named(n int) []string {
	out := make([]string, n)
	for i := range out {
		out[i] = fmt.Sprintf("k%05d", i)
	}
	return out
}

func bottoms(keys ...string) list {
	var out list
	for _, key := range keys {
		out = append(out, bottom(key))
	}
	return out
}

// The chapter's words, done slowly.

func isBottom(v api.Version) bool { return v.ID == 0 && v.Value == "" && len(v.Keys) == 0 }

func isVersion(v api.Version) bool {
	if v.ID < 65536 || len(v.Keys) > 1024 || !slices.Contains(v.Keys, v.Key) {
		return false
	}
	for i := range v.Keys {
		if i > 0 && strings.Compare(v.Keys[i-1], v.Keys[i]) != -1 {
			return false
		}
	}
	return true
}

// sameKeys sees at once that a list is the same as itself, so that great lists are soon gone through.
func sameKeys(a, b []string) bool {
	return len(a) == len(b) && (len(a) == 0 || &a[0] == &b[0] || slices.Equal(a, b))
}

func isFormed(l list) bool {
	if len(l) < 1 || len(l) > 1024 {
		return false
	}
	for i, x := range l {
		if !isBottom(x) && !isVersion(x) {
			return false
		}
		for _, y := range l[:i] {
			if x.Key == y.Key || x.ID == y.ID && !sameKeys(x.Keys, y.Keys) {
				return false
			}
		}
	}
	return true
}

// has is asked of versions of formed lists alone, whose Keys rise.
func has(v api.Version, key string) bool {
	_, is := slices.BinarySearch(v.Keys, key)
	return is
}

func isCut(l list) bool {
	if !isFormed(l) {
		return false
	}
	for _, x := range l {
		for _, y := range l {
			if y.ID < x.ID && has(x, y.Key) {
				return false
			}
		}
	}
	return true
}

func needsOf(l list) ([]api.Want, api.Errno) {
	if !isFormed(l) {
		return nil, errArg
	}
	var out []api.Want
	for _, y := range l {
		var greatest api.ID
		for _, x := range l {
			if x.ID > greatest && has(x, y.Key) {
				greatest = x.ID
			}
		}
		if greatest > y.ID {
			out = append(out, want(y.Key, greatest))
		}
	}
	return out, 0
}

func mendOf(l, got list) (list, api.Errno) {
	wants, err := needsOf(l)
	if err != 0 {
		return nil, err
	}
	out := slices.Clone(l)
	for i := range out {
		for _, w := range wants {
			if w.Key != out[i].Key {
				continue
			}
			at := slices.IndexFunc(got, func(v api.Version) bool { return v.Key == w.Key && v.ID == w.ID })
			if at < 0 {
				return nil, errNone
			}
			out[i] = got[at]
			break
		}
	}
	return out, 0
}

func sameVersion(a, b api.Version) bool {
	return a.Key == b.Key && a.ID == b.ID && a.Value == b.Value && slices.Equal(a.Keys, b.Keys)
}

func same(a, b list) bool { return slices.EqualFunc(a, b, sameVersion) }

// short tells a thing, but not all of a long one.
func short(x any) string {
	s := fmt.Sprintf("%+v", x)
	if len(s) > 600 {
		return s[:500] + " and on, " + fmt.Sprint(len(s)) + " signs in all"
	}
	return s
}

// Memory.

// fresh is l in memory of its own, with spare room behind it and behind each version's Keys, in which something stands.
func fresh(l list) list {
	out := make(list, len(l)+2)
	for i := range out {
		out[i] = api.Version{Key: "spare", ID: 7, Value: "spare", Keys: freshKeys(nil)}
	}
	for i, v := range l {
		out[i] = v
		out[i].Keys = freshKeys(v.Keys)
	}
	return out[:len(l)]
}

func freshKeys(keys []string) []string {
	out := append(slices.Clone(keys), "spare", "more spare")
	return out[:len(keys)]
}

// allOf is l with its spare room, and that of its Keys.
func allOf(l list) list {
	out := slices.Clone(l[:cap(l)])
	for i := range out {
		out[i].Keys = slices.Clone(out[i].Keys[:cap(out[i].Keys)])
	}
	return out
}

func spoilKeys(keys []string, mark string) {
	room := keys[:cap(keys)]
	for i := range room {
		room[i] = mark
	}
	_ = append(keys, mark)
}

func spoilWants(l []api.Want) {
	room := l[:cap(l)]
	for i := range room {
		room[i] = want("spoilt", 77)
	}
	_ = append(l, want("spoilt!", 78))
}

// spoil writes all of a list full, its spare room too, and lengthens it. What its Keys hold is written over one by one:
// it tells whether each was as it ought to be until then, and none was written over with another.
func spoil(l, ought list) bool {
	apart := true
	for i := range l {
		apart = apart && sameVersion(l[i], ought[i])
		spoilKeys(l[i].Keys, fmt.Sprint("spoilt ", i))
	}
	for i, v := range l {
		mark := fmt.Sprint("spoilt ", i)
		apart = apart && !slices.ContainsFunc(v.Keys[:cap(v.Keys)], func(s string) bool { return s != mark })
	}
	room := l[:cap(l)]
	for i := range room {
		room[i] = api.Version{Key: "spoilt", ID: 9, Value: "spoilt"}
	}
	_ = append(l, bottom("spoilt!"))
	return apart
}

// judge does all four calls, holds their answers against the chapter's words, and looks at all memory that went in or
// came out.
func judge(t *testing.T, l, got list) {
	t.Helper()
	wants, needErr := needsOf(l)
	mended, mendErr := mendOf(l, got)
	in, fetched := fresh(l), fresh(got)
	inAll, fetchedAll := allOf(in), allOf(fetched)
	told := func() ([]api.Want, list) {
		t.Helper()
		if is, cut := Formed(in), Cut(in); is != isFormed(l) || cut != isCut(l) {
			t.Fatalf("P17.1: of %s: Formed %v, Cut %v", short(l), is, cut)
		}
		n, e := Needs(in)
		m, f := Mend(in, fetched)
		if e != needErr || !slices.Equal(n, wants) {
			t.Fatalf("P17.1: Needs of %s = %s, %d, want %s, %d", short(l), short(n), e, short(wants), needErr)
		}
		if f != mendErr || !same(m, mended) {
			t.Fatalf("P17.1: Mend of %s with %s = %s, %d, want %s, %d", short(l), short(got), short(m), f, short(mended), mendErr)
		}
		if !same(inAll, allOf(in)) || !same(fetchedAll, allOf(fetched)) {
			t.Fatalf("P17.4: of %s, %s: what was handed in is changed", short(l), short(got))
		}
		return n, m
	}
	n, m := told()
	spoilWants(n)
	if !spoil(m, mended) {
		t.Fatalf("P17.4: Mend of %s with %s: lists of the answer share memory", short(l), short(got))
	}
	n, m = told()
	spoil(in, l)
	spoil(fetched, got)
	if !slices.Equal(n, wants) || !same(m, mended) {
		t.Fatalf("P17.4: of %s, %s: with that written over, the answers are %s, %s", short(l), short(got), short(n), short(m))
	}
}

func formedIs(t *testing.T, what string, is bool, l ...api.Version) {
	t.Helper()
	judge(t, l, nil)
	n, e := Needs(l)
	m, f := Mend(l, l)
	if Formed(l) != is || is != (e == 0) || !is && (Cut(l) || e != errArg || f != errArg || len(n)+len(m) != 0) {
		t.Errorf("P17.1: %s: Formed %v, Cut %v, Needs %s, %d, Mend %s, %d", what, Formed(l), Cut(l), short(n), e, short(m), f)
	}
}

func needsIs(t *testing.T, l list, wants ...api.Want) {
	t.Helper()
	judge(t, l, nil)
	if got, err := Needs(l); err != 0 || !slices.Equal(got, wants) {
		t.Errorf("P17.1: Needs of %s = %v, %d, want %v", short(l), got, err, wants)
	}
	if Cut(l) != (len(wants) == 0) {
		t.Errorf("P17.3: Cut of %s: %v, and wanted are %v", short(l), Cut(l), wants)
	}
}

func mendIs(t *testing.T, l, got list, mended ...api.Version) {
	t.Helper()
	judge(t, l, got)
	if m, err := Mend(l, got); err != 0 || !same(m, mended) {
		t.Errorf("P17.1: Mend of %s with %s = %s, %d, want %s", short(l), short(got), short(m), err, short(mended))
	}
}

func mendRefused(t *testing.T, l, got list, why api.Errno) {
	t.Helper()
	judge(t, l, got)
	if m, err := Mend(l, got); err != why || len(m) != 0 {
		t.Errorf("P17.1: Mend of %s with %s = %s, %d, want %d", short(l), short(got), short(m), err, why)
	}
}

// Examples.

func TestExampleOne(t *testing.T) {
	l := list{v("a", one), v("b", 0)}
	needsIs(t, l, want("b", one))
	mendIs(t, l, list{v("b", one)}, v("a", one), v("b", one))
	for _, got := range []list{nil, {v("b", 0)}, {v("b", two)}} {
		mendRefused(t, l, got, errNone)
	}
}

func TestExampleTwo(t *testing.T) {
	l := list{v("a", one), v("b", two), v("c", 0)}
	needsIs(t, l, want("c", two))
	mended := list{v("a", one), v("b", two), v("c", two)}
	mendIs(t, l, list{v("c", two)}, mended...)
	needsIs(t, mended)
}

func TestExampleThree(t *testing.T) {
	for _, l := range []list{{v("a", one), v("c", 0)}, {v("a", 0), v("b", 0)}} {
		needsIs(t, l)
		mendIs(t, l, nil, l...)
	}
}

func TestExampleFour(t *testing.T) {
	formedIs(t, "of none", false)
	formedIs(t, "a twice", false, v("a", one), v("a", 0))
	formedIs(t, "the ID 7", false, by("a", 7, "a"))
	formedIs(t, "bottom with a value", false, valued(bottom("a"), "x"))
	formedIs(t, "Keys without its own", false, by("a", one, "b"))
	formedIs(t, "one ID, two Keys", false, v("a", one), by("b", one, "b"))
}

// Hard places.

// What a fetched version's Keys say adds nothing, even if they are not those that the list has of that write.
func TestOnlyTheListCounts(t *testing.T) {
	l := list{by("a", two, "a", "b"), bottom("b"), bottom("c")}
	more := by("b", two, "a", "b", "c")
	needsIs(t, l, want("b", two))
	mendIs(t, l, list{more}, l[0], more, bottom("c"))
}

// A key of several writes: the greatest of those of the list is wanted, wherever it stands there.
func TestKeyOfTwoWrites(t *testing.T) {
	a, b, c := by("a", one, "a", "z"), by("b", two, "b", "z"), by("c", three, "c", "z")
	all := list{a, b, c, bottom("z")}
	got := list{by("z", one, "a", "z"), by("z", two, "b", "z"), by("z", three, "c", "z")}
	for _, order := range [][]int{{0, 1, 2, 3}, {3, 2, 1, 0}, {1, 2, 3, 0}, {2, 3, 0, 1}, {3, 0, 1, 2}, {0, 2, 1, 3}, {1, 3, 0, 2}} {
		var l, mended list
		for _, i := range order {
			l = append(l, all[i])
			mended = append(mended, all[i])
		}
		mended[slices.Index(order, 3)] = got[2]
		needsIs(t, l, want("z", three))
		mendIs(t, l, got, mended...)
	}
	needsIs(t, list{a, b, bottom("z")}, want("z", two))
	needsIs(t, list{b, bottom("z"), a}, want("z", two))
	needsIs(t, list{a, b, got[0]}, want("z", two))
	needsIs(t, list{a, b, got[1]})
	needsIs(t, list{a, b, got[2]})
	mendRefused(t, list{a, b, bottom("z")}, list{got[0], got[2]}, errNone)
}

func TestKeysThatAreNotRead(t *testing.T) {
	needsIs(t, list{by("a", two, "a", "y", "z"), bottom("b"), by("c", one, "c")})
	needsIs(t, list{by("a", lastID, "a")})
	needsIs(t, list{by("a", two, "a"), by("b", one, "b"), bottom("c")})
}

func TestBottomAsksForNothing(t *testing.T) {
	needsIs(t, bottoms("a"))
	needsIs(t, bottoms("c", "", "a"))
	needsIs(t, list{bottom("a"), by("b", one, "b", "c"), bottom("d")})
	needsIs(t, list{bottom("a"), by("b", one, "a", "b")}, want("a", one))
	needsIs(t, list{by("b", one, "a", "b"), bottom("a")}, want("a", one))
}

// Writes may ask for each other: each is above for some key.
func TestTornBothWays(t *testing.T) {
	ab, bc := []string{"a", "b", "c"}, []string{"b", "c", "d"}
	l := list{by("d", two, bc...), by("b", one, ab...), bottom("c"), by("a", one, ab...)}
	needsIs(t, l, want("b", two), want("c", two))
	mendIs(t, l, list{by("c", one, ab...), by("c", two, bc...), by("b", two, bc...)}, l[0], by("b", two, bc...), by("c", two, bc...), l[3])
}

// Edges of what is formed.

func TestLengths(t *testing.T) {
	for _, n := range []int{0, 1, 2, maxSet - 1, maxSet, maxSet + 1, 2 * maxSet, 5000} {
		keys := named(n)
		may := n >= 1 && n <= maxSet
		formedIs(t, fmt.Sprint(n, " bottoms"), may, bottoms(keys...)...)
		var pairs, single list
		for i, key := range keys {
			pair := keys[i/2*2 : min(i/2*2+2, n)]
			pairs = append(pairs, by(key, one+api.ID(i/2), pair...))
			single = append(single, by(key, one+api.ID(i), key))
		}
		formedIs(t, fmt.Sprint("writes of two keys, ", n), may, pairs...)
		formedIs(t, fmt.Sprint(n, " writes"), may, single...)
		slices.Reverse(single)
		formedIs(t, fmt.Sprint(n, " writes, the last key first"), may, single...)
	}
}

func TestKeyTwice(t *testing.T) {
	first := []api.Version{bottom("a"), by("a", one, "a"), by("a", one, "a", "b"), by("a", two, "a")}
	for _, x := range first {
		for _, y := range first {
			formedIs(t, "a twice", false, x, y)
			formedIs(t, "a twice, and others between", false, x, bottom("b"), bottom("c"), y)
			formedIs(t, "a thrice", false, x, y, x)
		}
		formedIs(t, "a once", true, x)
	}
	formedIs(t, "no bytes twice", false, bottom(""), by("", one, ""))
	formedIs(t, "no bytes once", true, bottom(""), by("b", one, "b"))
	for _, at := range []int{0, 1, 500, maxSet - 2} {
		l := bottoms(named(maxSet)...)
		l[maxSet-1].Key = l[at].Key
		formedIs(t, fmt.Sprint("the last one as number ", at), false, l...)
	}
	long := strings.Repeat("k", 70000)
	formedIs(t, "long keys, told apart by their last byte", true, bottom(long+"a"), bottom(long+"b"), bottom(long))
	formedIs(t, "a long key twice", false, bottom(long+"a"), bottom(strings.Repeat("k", 70000)+"a"))
}

func TestBottom(t *testing.T) {
	for _, c := range []struct {
		what string
		is   bool
		v    api.Version
	}{
		{"bottom", true, bottom("a")},
		{"bottom without bytes", true, bottom("")},
		{"bottom with empty Keys", true, api.Version{Key: "a", Keys: []string{}}},
		{"bottom with a value", false, api.Version{Key: "a", Value: "x"}},
		{"bottom with a value of one zero", false, api.Version{Key: "a", Value: "\x00"}},
		{"bottom with its key", false, api.Version{Key: "a", Keys: []string{"a"}}},
		{"bottom with another key", false, api.Version{Key: "a", Keys: []string{"b"}}},
		{"bottom with a key of no bytes", false, api.Version{Key: "a", Keys: []string{""}}},
		{"bottom with both", false, by("a", 0, "a")},
	} {
		formedIs(t, c.what, c.is, c.v)
		formedIs(t, c.what+", first", c.is, c.v, by("z", one, "z"))
		formedIs(t, c.what+", last", c.is, bottom("y"), by("z", one, "z"), c.v)
		formedIs(t, c.what+", beside one that asks for it", c.is, c.v, by("z", one, "a", "z"))
	}
}

func TestIDs(t *testing.T) {
	for _, c := range []struct {
		id api.ID
		is bool
	}{
		{1, false}, {2, false}, {7, false}, {15, false}, {32768, false}, {65534, false}, {65535, false},
		{65536, true}, {65537, true}, {131071, true}, {131072, true}, {1<<32 - 1, true}, {1 << 32, true}, {1 << 48, true},
		{1<<63 - 1, true}, {1 << 63, true}, {lastID - 1, true}, {lastID, true},
	} {
		formedIs(t, fmt.Sprint("the ID ", c.id), c.is, by("a", c.id, "a"))
		formedIs(t, fmt.Sprint("the ID ", c.id, " behind others"), c.is, bottom("z"), by("y", three, "y"), by("a", c.id, "a"))
		formedIs(t, fmt.Sprint("the ID ", c.id, " without Keys"), false, by("a", c.id))
		formedIs(t, fmt.Sprint("the ID ", c.id, " alone"), false, api.Version{Key: "a", ID: c.id})
	}
}

// The order of writes is that of their IDs as numbers without a sign.
func TestOrderOfIDs(t *testing.T) {
	ids := []api.ID{one, one + 1, two, 1 << 32, 1 << 48, 1<<63 - 1, 1 << 63, lastID - 1, lastID}
	for i, low := range ids {
		for _, high := range ids[i+1:] {
			l := list{by("a", low, "a", "b"), by("b", high, "b")}
			needsIs(t, l)
			l = list{by("a", low, "a"), by("b", high, "a", "b")}
			needsIs(t, l, want("a", high))
			mendIs(t, l, list{by("a", low, "a"), by("a", high, "a", "b")}, by("a", high, "a", "b"), l[1])
		}
	}
}

func TestKeys(t *testing.T) {
	long := strings.Repeat("k", 65536)
	for _, c := range []struct {
		what string
		is   bool
		v    api.Version
	}{
		{"its key alone", true, by("a", one, "a")},
		{"no bytes alone", true, by("", one, "")},
		{"no bytes and others", true, by("b", one, "", "b")},
		{"its key first", true, by("a", one, "a", "b", "c")},
		{"its key between", true, by("b", one, "a", "b", "c")},
		{"its key last", true, by("c", one, "a", "b", "c")},
		{"by bytes", true, by("a", one, "A", "Z", "a", "\xc3\xa4", "\xff")},
		{"each begins the next one", true, by("ab", one, "a", "ab", "abc")},
		{"no value", true, valued(by("a", one, "a"), "")},
		{"a value of 65536 bytes", true, valued(by("a", one, "a"), long)},
		{"a key of 65536 bytes", true, by(long, one, "a", long)},
		{"another key of 65536 bytes", true, by("a", one, "a", long)},

		{"no Keys", false, by("a", one)},
		{"empty Keys", false, api.Version{Key: "a", ID: one, Keys: []string{}}},
		{"one other", false, by("a", one, "b")},
		{"others below and above", false, by("b", one, "a", "c")},
		{"others below", false, by("c", one, "a", "b")},
		{"others above", false, by("a", one, "b", "c")},
		{"its key with a byte more", false, by("a", one, "a\x00")},
		{"no bytes, and not among them", false, by("", one, "a")},
		{"not no bytes", false, by("a", one, "")},
		{"falling", false, by("a", one, "b", "a")},
		{"falling at the end", false, by("a", one, "a", "c", "b")},
		{"falling at the beginning", false, by("c", one, "b", "a", "c")},
		{"its key twice", false, by("a", one, "a", "a")},
		{"another key twice", false, by("a", one, "a", "b", "b")},
		{"no bytes twice", false, by("a", one, "", "", "a")},
		{"not by bytes", false, by("a", one, "a", "B")},
		{"the longer one ahead", false, by("a", one, "a", "abc", "ab")},
	} {
		formedIs(t, c.what, c.is, c.v)
		formedIs(t, c.what+", behind others", c.is, bottom("x"), by("y", two, "y"), c.v)
		formedIs(t, c.what+", ahead of others", c.is, c.v, bottom("x"), by("y", two, "y"))
	}
}

func TestManyKeys(t *testing.T) {
	for _, n := range []int{1, 2, maxSet - 1, maxSet, maxSet + 1, maxSet + 2, 2 * maxSet} {
		keys := named(n)
		for _, at := range []int{0, n / 2, n - 1} {
			x := by(keys[at], one, keys...)
			formedIs(t, fmt.Sprint("number ", at, " of ", n, " Keys"), n <= maxSet, x)
			formedIs(t, fmt.Sprint("number ", at, " of ", n, " Keys, behind another"), n <= maxSet, bottom("a"), x)
			if n > 1 {
				swapped := slices.Clone(keys)
				swapped[n-1], swapped[n-2] = swapped[n-2], swapped[n-1]
				formedIs(t, fmt.Sprint(n, " Keys, the last two swapped"), false, by(keys[at], one, swapped...))
			}
		}
		formedIs(t, fmt.Sprint(n, " Keys that lack its own"), false, by("k", one, keys...))
	}
}

func TestOneIDOtherKeys(t *testing.T) {
	abc := []string{"a", "b", "c"}
	formedIs(t, "the same Keys", true, by("a", one, abc...), by("b", one, abc...), by("c", one, "a", "b", "c"))
	formedIs(t, "bottoms and a write", true, bottom("x"), by("a", one, abc...), bottom("y"), by("c", one, abc...))
	formedIs(t, "other IDs", true, by("a", one, abc...), by("b", one+1, "b"), by("c", two, "c", "d"))
	for _, other := range [][]string{{"b"}, {"b", "c"}, {"a", "b"}, {"a", "b", "c", "d"}, {"a", "b", "d"}, {"", "b", "c"}, {"", "a", "b", "c"}, {"a", "aa", "b", "c"}} {
		x, y, z := by("a", one, abc...), by("b", one, other...), by("c", one, abc...)
		formedIs(t, "other Keys last", false, x, z, y)
		formedIs(t, "other Keys between", false, x, y, z)
		formedIs(t, "other Keys first", false, y, x, z)
		formedIs(t, "others between the two", false, x, bottom("x"), by("y", two, "y"), y)
	}
	great := named(maxSet)
	other := slices.Clone(great)
	other[maxSet-1] += "x"
	formedIs(t, "the same great Keys", true, by(great[0], one, great...), by(great[1], one, slices.Clone(great)...))
	formedIs(t, "great Keys, the last one other", false, by(great[0], one, great...), by(great[1], one, other...))
	formedIs(t, "great Keys, one fewer", false, by(great[0], one, great...), by(great[1], one, great[:maxSet-1]...))
}

// As many versions as there may be, of a write of as many keys.
func TestGreatWrite(t *testing.T) {
	keys := named(maxSet)
	var l list
	for _, key := range keys {
		l = append(l, by(key, one, keys...))
	}
	formedIs(t, "a write of 1024", true, l...)
	needsIs(t, l)
	formedIs(t, "a write of 1024, and one key more", false, append(l, bottom("a"))...)
}

// A fault in any place of a list, with versions about it that are wanted for, is seen.
func TestFaultAnywhere(t *testing.T) {
	good := list{by("a", two, "a", "b", "c"), bottom("b"), by("c", one, "c"), bottom("d"), by("e", three, "d", "e")}
	got := list{by("b", two, "a", "b", "c"), by("c", two, "a", "b", "c"), by("d", three, "d", "e")}
	mendIs(t, good, got, good[0], got[0], got[1], got[2], good[4])
	faults := []func(x *api.Version){
		func(x *api.Version) { x.ID = 65535 },
		func(x *api.Version) { x.ID, x.Keys = 0, nil },
		func(x *api.Version) { x.ID, x.Value, x.Keys = one, "", nil },
		func(x *api.Version) { x.ID, x.Keys = one+5, []string{"zz", x.Key} },
		func(x *api.Version) { x.ID, x.Keys = one+5, []string{"zz"} },
		func(x *api.Version) { x.ID, x.Value, x.Keys = 0, "", []string{x.Key} },
		func(x *api.Version) { x.Key, x.ID, x.Keys = "e", one+6, []string{"e"} },
		func(x *api.Version) { x.ID, x.Keys = three, []string{x.Key} },
	}
	for i := range good {
		for n, fault := range faults {
			l := slices.Clone(good)
			l[i].Value = "x"
			fault(&l[i])
			if i == 4 && n >= 6 {
				continue // That is e itself, and the only one of its ID.
			}
			if isFormed(l) {
				t.Fatalf("fault %d in place %d is none", n, i)
			}
			judge(t, l, got)
			mendRefused(t, l, got, errArg)
		}
	}
}

// What was fetched.

func TestGot(t *testing.T) {
	l := list{by("a", two, "a", "b", "c"), by("b", one, "b"), bottom("c"), bottom("d")}
	b, c := by("b", two, "a", "b", "c"), by("c", two, "a", "b", "c")
	needsIs(t, l, want("b", two), want("c", two))
	full := list{l[0], b, c, l[3]}
	for _, got := range []list{
		{b, c}, {c, b}, {b, c, b, c}, {b, b, b, c},
		{bottom("b"), bottom("c"), c, b},
		{by("b", one, "b"), by("c", one, "c"), b, by("b", three, "b"), c},
		{by("a", two, "a", "b", "c"), by("d", two, "a", "b", "c", "d"), c, b},
		{b, valued(b, "later"), c, valued(c, "later")},
		{c, valued(c, "later"), b, valued(b, "later"), valued(b, "last")},
		{by("b", 7), by("c", two+1, "c"), {}, {Keys: []string{"z", "a"}}, c, by("", two, ""), b},
		{b, c, by("a", three, "a"), valued(l[0], "not wanted"), valued(l[3], "not wanted"), by("d", lastID, "d")},
	} {
		mendIs(t, l, got, full...)
	}
	for _, got := range []list{
		nil, {}, {b}, {c}, {b, b}, {bottom("b"), c}, {b, bottom("c")}, {b, by("c", one, "c")}, {b, by("c", three, "c")},
		{b, by("c", two+1, "c")}, {b, by("c", two-1, "c")}, {b, by("c\x00", two, "c\x00")}, {b, by("", two, "a", "b", "c")},
		{by("B", two, "a", "b", "c"), c}, {by("a", two, "a", "b", "c"), by("d", two, "d"), c}, {{}, {ID: two}, {Key: "b"}, {Key: "c"}},
	} {
		mendRefused(t, l, got, errNone)
	}
}

// The first version of a want's key and ID counts, whatever else it holds.
func TestFirstOfGot(t *testing.T) {
	l := list{v("a", one), v("b", 0)}
	for _, first := range []api.Version{
		{Key: "b", ID: one, Value: "first", Keys: []string{"a", "b"}},
		{Key: "b", ID: one},
		{Key: "b", ID: one, Value: "without Keys"},
		{Key: "b", ID: one, Keys: []string{"b", "a"}},
		{Key: "b", ID: one, Value: "of others", Keys: []string{"x", "x", "", "b"}},
		{Key: "b", ID: one, Value: strings.Repeat("v", 70000), Keys: named(maxSet + 1)},
	} {
		mendIs(t, l, list{first}, l[0], first)
		mendIs(t, l, list{first, v("b", one)}, l[0], first)
		mendIs(t, l, list{v("b", two), v("a", one), first, v("b", one), first}, l[0], first)
		mendIs(t, l, list{v("b", one), first}, l[0], v("b", one))
	}
}

// got may be longer than any formed list.
func TestMuchIsGot(t *testing.T) {
	keys := named(3000)
	var got list
	for i, key := range keys {
		got = append(got, by(key, one+api.ID(i%3), "x"))
	}
	l := list{v("a", one), v("b", 0)}
	mendRefused(t, l, got, errNone)
	mendIs(t, l, append(got, v("b", one), valued(v("b", one), "later")), v("a", one), v("b", one))
}

// Of a cut nothing is replaced, though got has its keys with other values.
func TestNothingIsWanted(t *testing.T) {
	l := list{by("a", two, "a", "b"), by("b", two, "a", "b"), bottom("c"), by("d", one, "d", "e")}
	needsIs(t, l)
	for _, got := range []list{
		nil,
		{valued(l[0], "x"), valued(l[1], "x"), valued(l[3], "x")},
		{by("a", three, "a", "b", "c"), by("b", three, "b"), by("c", three, "c"), by("d", three, "d")},
		{bottom("a"), bottom("b"), bottom("c"), bottom("d"), {Key: "c", Value: "x"}},
	} {
		mendIs(t, l, got, l...)
	}
}

// A list that is not formed is refused as such, whether got has what would be wanted or not.
func TestWhichErrorIsFirst(t *testing.T) {
	bad := list{by("a", two, "a", "b"), bottom("b"), by("c", 7, "c")}
	for _, got := range []list{nil, {bottom("b")}, {by("b", two, "a", "b")}, bad} {
		mendRefused(t, bad, got, errArg)
		mendRefused(t, nil, got, errArg)
		mendRefused(t, list{}, got, errArg)
	}
	mendRefused(t, bad[:2], nil, errNone)
}

// All short lists.

// lists does f to each list of at most n of these versions.
func lists(n int, all list, f func(l list)) {
	var longer func(l list)
	longer = func(l list) {
		f(l)
		if len(l) == n {
			return
		}
		for _, x := range all {
			longer(append(l[:len(l):len(l)], x))
		}
	}
	longer(nil)
}

// gots are lists that have what is wanted, or not all of it, or more.
func gots(l list) []list {
	wants, _ := needsOf(l)
	var full, bare list
	for _, w := range wants {
		full = append(full, by(w.Key, w.ID, "a", "b"))
		bare = append(bare, api.Version{Key: w.Key, ID: w.ID, Value: "bare"})
	}
	out := []list{nil, full, append(slices.Clone(bare), full...), append(slices.Clone(full), l...), l}
	for i := range full {
		out = append(out, slices.Delete(slices.Clone(full), i, i+1))
	}
	return out
}

func TestAllPairs(t *testing.T) {
	var all list
	for _, key := range []string{"", "a", "b"} {
		all = append(all, bottom(key), api.Version{Key: key, Value: "x"}, api.Version{Key: key, Keys: []string{key}})
		for _, id := range []api.ID{1, 65535, one, one + 1, two} {
			for _, keys := range [][]string{nil, {""}, {"a"}, {"b"}, {"a", "b"}, {"", "b"}, {"b", "a"}, {"", "a", "b"}, {"a", "a"}} {
				all = append(all, by(key, id, keys...))
			}
		}
	}
	lists(2, all, func(l list) {
		for _, got := range gots(l) {
			judge(t, l, got)
		}
	})
}

// Versions that may be each by itself, with every choice of Keys.
func TestAllTriples(t *testing.T) {
	all := bottoms("a", "b", "c")
	for _, id := range []api.ID{one, two} {
		for _, keys := range [][]string{{"a"}, {"b"}, {"c"}, {"a", "b"}, {"a", "c"}, {"b", "c"}, {"a", "b", "c"}} {
			for _, key := range keys {
				all = append(all, by(key, id, keys...))
			}
		}
	}
	formed := 0
	lists(3, all, func(l list) {
		if isFormed(l) {
			formed++
		}
		for _, got := range gots(l) {
			judge(t, l, got)
		}
	})
	if formed < 1000 {
		t.Fatalf("only %d lists are formed", formed)
	}
}

// Lists of chance: some formed, some with a fault.
func TestListsByChance(t *testing.T) {
	r := rand.New(rand.NewSource(17))
	formed, torn, mended := 0, 0, 0
	for range 60000 {
		w := someWrites(r, 1+r.Intn(5), 1+r.Intn(6))
		l := w.someRead(r)
		if r.Intn(3) == 0 {
			l[r.Intn(len(l))] = w.fault(r)
		}
		got := w.someVersions(r, r.Intn(12))
		if wants, err := needsOf(l); err == 0 {
			formed++
			torn += min(len(wants), 1)
			if m, none := mendOf(l, got); none == 0 && !same(m, l) {
				mended++
			}
		}
		judge(t, l, got)
	}
	if formed < 20000 || formed > 58000 || torn < 5000 || mended < 1000 {
		t.Fatalf("%d lists are formed, %d of them torn, %d mended", formed, torn, mended)
	}
}

// Worlds of writes.

// world is some writes over some keys, each with an ID of its own.
type world struct {
	keys   []string
	writes []api.Record
}

func (w world) write(id api.ID) (api.Record, bool) {
	for _, x := range w.writes {
		if x.ID == id {
			return x, true
		}
	}
	return api.Record{}, false
}

// version is as the write made it.
func version(w api.Record, key string) api.Version { return by(key, w.ID, w.Keys...) }

// having are bottom and the versions of those writes that have the key.
func (w world) having(key string) list {
	out := bottoms(key)
	for _, x := range w.writes {
		if slices.Contains(x.Keys, key) {
			out = append(out, version(x, key))
		}
	}
	return out
}

func someWrites(r *rand.Rand, writes, keys int) world {
	w := world{keys: named(keys)}
	if r.Intn(4) == 0 {
		w.keys[0] = ""
	}
	for range writes {
		id := one + api.ID(r.Intn(2*writes))
		switch r.Intn(8) {
		case 0:
			id = lastID - api.ID(r.Intn(2*writes))
		case 1:
			id = api.ID(r.Uint64()) | one
		}
		if _, is := w.write(id); is {
			continue
		}
		x := api.Record{ID: id}
		for _, key := range w.keys {
			if r.Intn(2) == 0 {
				x.Keys = append(x.Keys, key)
			}
		}
		w.writes = append(w.writes, x)
	}
	return w
}

// someRead has, of some keys in some order, bottom or the version of any write that has the key.
func (w world) someRead(r *rand.Rand) list {
	var l list
	for _, i := range r.Perm(len(w.keys))[:1+r.Intn(len(w.keys))] {
		may := w.having(w.keys[i])
		l = append(l, may[r.Intn(len(may))])
	}
	return l
}

// someVersions are those of any writes, some of them as no write made them.
func (w world) someVersions(r *rand.Rand, n int) list {
	var l list
	for range n {
		may := w.having(w.keys[r.Intn(len(w.keys))])
		x := may[r.Intn(len(may))]
		switch r.Intn(6) {
		case 0:
			x.Value = fmt.Sprint("value ", len(l))
		case 1:
			x.Keys = w.keys[:r.Intn(len(w.keys)+1)]
		case 2:
			x.ID++
		}
		l = append(l, x)
	}
	return l
}

// fault is a version that is most often none.
func (w world) fault(r *rand.Rand) api.Version {
	may := w.having(w.keys[r.Intn(len(w.keys))])
	x := may[r.Intn(len(may))]
	switch r.Intn(6) {
	case 0:
		x.ID = api.ID(r.Intn(65536))
	case 1:
		x.Keys = slices.Clone(x.Keys)
		slices.Reverse(x.Keys)
	case 2:
		x.Keys = slices.DeleteFunc(slices.Clone(x.Keys), func(key string) bool { return key == x.Key })
	case 3:
		x.Keys = w.keys[:r.Intn(len(w.keys)+1)]
	case 4:
		x.Value += "!"
	}
	return x
}

// mendedIsWhole looks at P17.2 and P17.3 by themselves: l is a read of the world, and what is wanted is fetched as the
// writes made it, with what else there is about it.
func (w world) mendedIsWhole(t *testing.T, l, about list) {
	t.Helper()
	wants, err := Needs(l)
	if err != 0 || Cut(l) != isCut(l) || isCut(l) != (len(wants) == 0) {
		t.Fatalf("P17.3: of %s: Needs %s, %d, Cut %v", short(l), short(wants), err, Cut(l))
	}
	got := slices.Clone(about)
	wanted := make(map[string]api.ID)
	for _, x := range wants {
		made, is := w.write(x.ID)
		if !is || !slices.Contains(made.Keys, x.Key) {
			t.Fatalf("P17.2: of %s: %v is wanted, and no write made it", short(l), x)
		}
		got = append(got, version(made, x.Key))
		wanted[x.Key] = x.ID
	}
	m, err := Mend(l, got)
	if err != 0 || len(m) != len(l) || !isFormed(m) || !isCut(m) || !Formed(m) || !Cut(m) {
		t.Fatalf("P17.2: Mend of %s with %s = %s, %d", short(l), short(got), short(m), err)
	}
	w.asMade(t, l, m, wanted)
	if more, err := Needs(m); err != 0 || len(more) != 0 {
		t.Fatalf("P17.3: behind Mend of %s, %s is wanted, %d", short(l), short(more), err)
	}
	if again, err := Mend(m, about); err != 0 || !same(again, m) {
		t.Fatalf("P17.3: Mend of the cut %s = %s, %d", short(m), short(again), err)
	}
}

// asMade looks at a mended list key by key.
func (w world) asMade(t *testing.T, l, m list, wanted map[string]api.ID) {
	t.Helper()
	for i, x := range l {
		y := m[i]
		if y.Key != x.Key || y.ID < x.ID || !slices.ContainsFunc(l, func(z api.Version) bool { return z.ID == y.ID }) {
			t.Fatalf("P17.2: Mend of %s = %s", short(l), short(m))
		}
		if made, is := w.write(y.ID); !isBottom(y) && (!is || !sameVersion(y, version(made, y.Key))) {
			t.Fatalf("P17.2: Mend of %s tells %s, and no write made it", short(l), short(y))
		}
		if id, is := wanted[x.Key]; is && y.ID != id || !is && !sameVersion(x, y) {
			t.Fatalf("P17.3: Mend of %s tells %s, wanted was %d", short(l), short(y), id)
		}
	}
}

func TestWorldsByChance(t *testing.T) {
	r := rand.New(rand.NewSource(1717))
	torn := 0
	for range 40000 {
		w := someWrites(r, r.Intn(8), 1+r.Intn(8))
		l := w.someRead(r)
		var about list
		for range r.Intn(6) {
			may := w.having(w.keys[r.Intn(len(w.keys))])
			about = append(about, may[r.Intn(len(may))])
		}
		w.mendedIsWhole(t, l, about)
		if !Cut(l) {
			torn++
		}
	}
	if torn < 5000 || torn > 35000 {
		t.Fatalf("%d of the reads are torn", torn)
	}
}

// Every world of three writes over three keys, and every read of its keys in two orders.
func TestAllSmallWorlds(t *testing.T) {
	keys := []string{"a", "b", "c"}
	chosen := func(bits int) []string {
		var out []string
		for i, key := range keys {
			if bits>>i&1 == 1 {
				out = append(out, key)
			}
		}
		return out
	}
	for n := range 512 {
		w := world{keys: keys, writes: []api.Record{{ID: two, Keys: chosen(n & 7)}, {ID: one, Keys: chosen(n >> 3 & 7)}, {ID: one + 3, Keys: chosen(n >> 6)}}}
		for _, a := range w.having("a") {
			for _, b := range w.having("b") {
				w.mendedIsWhole(t, list{a, b}, nil)
				for _, c := range w.having("c") {
					w.mendedIsWhole(t, list{a, b, c}, nil)
					w.mendedIsWhole(t, list{c, a, b}, list{bottom("a"), bottom("b"), bottom("c")})
				}
			}
		}
	}
}

// Reads of 1024 keys, of writes of up to 1024.
func TestGreatWorlds(t *testing.T) {
	r := rand.New(rand.NewSource(171717))
	for _, writes := range []int{20, 60, 200} {
		w := someWrites(r, writes, maxSet)
		w.writes[0].Keys = w.keys
		var l list
		for _, i := range r.Perm(maxSet) {
			key := w.keys[i]
			x := w.writes[r.Intn(len(w.writes))]
			if slices.Contains(x.Keys, key) && r.Intn(4) > 0 {
				l = append(l, version(x, key))
			} else {
				l = append(l, bottom(key))
			}
		}
		w.mendedIsWhole(t, l, nil)
		judge(t, l, nil)
	}
}

// All of a read's keys are wanted but one.
func TestMuchIsWanted(t *testing.T) {
	keys := named(maxSet)
	l := bottoms(keys...)
	l[700] = by(keys[700], one, keys...)
	var wants []api.Want
	var got, mended list
	for i, key := range keys {
		mended = append(mended, by(key, one, keys...))
		if i != 700 {
			wants = append(wants, want(key, one))
			got = append(got, mended[i])
		}
	}
	slices.Reverse(got)
	needsIs(t, l, wants...)
	mendIs(t, l, got, mended...)
	for _, without := range []int{0, 500, len(got) - 1} {
		mendRefused(t, l, slices.Delete(slices.Clone(got), without, without+1), errNone)
	}
}

// Memory, and that nothing is kept.

// One list of Keys that stands in many versions that are handed in is another one in each that is told.
func TestSharedKeys(t *testing.T) {
	keys := []string{"a", "b", "c", "d"}
	l := list{by("a", one, keys...), by("b", one, keys...), bottom("c"), bottom("d")}
	got := list{by("c", one, keys...), by("d", one, keys...)}
	m, err := Mend(l, got)
	ought := list{by("a", one, "a", "b", "c", "d"), by("b", one, "a", "b", "c", "d"), by("c", one, "a", "b", "c", "d"), by("d", one, "a", "b", "c", "d")}
	if err != 0 || !same(m, ought) || !spoil(m, ought) {
		t.Fatalf("P17.4: Mend = %s, %d: its lists share memory", short(m), err)
	}
	if !slices.Equal(keys, []string{"a", "b", "c", "d"}) || len(l) != 4 || l[2].ID != 0 || got[1].ID != one {
		t.Fatalf("P17.4: what was handed in is changed with the answer: %v", keys)
	}
}

// A cut is told as new memory too, though it is told as it was.
func TestCutIsCopied(t *testing.T) {
	l := list{by("a", one, "a", "b"), by("b", one, "a", "b"), {Key: "c", Keys: make([]string, 0, 4)}}
	m, err := Mend(l, l)
	ought := list{by("a", one, "a", "b"), by("b", one, "a", "b"), bottom("c")}
	if err != 0 || !same(m, ought) || !spoil(m, ought) || !same(l, ought) {
		t.Fatalf("P17.4: behind an answer that was written over: %s, %d", short(l), err)
	}
	if room := l[2].Keys[:4]; slices.ContainsFunc(room, func(s string) bool { return s != "" }) {
		t.Fatalf("P17.4: the spare room of Keys is written over: %q", room)
	}
}

// l and got may be pieces of one list, and lie over each other.
func TestPiecesOfOneList(t *testing.T) {
	all := list{by("b", one, "a", "b"), by("a", one, "a", "b"), bottom("b"), by("b", one, "a", "b"), bottom("a")}
	ahead := allOf(all)
	for _, c := range []struct{ l, got list }{
		{all[1:3], all}, {all[1:3], all[:1]}, {all[1:3], all[2:4]}, {all[1:3], all[1:]}, {all[3:], all[1:2]}, {all[3:], all},
	} {
		m, err := Mend(c.l, c.got)
		if err != 0 || len(m) != 2 || m[0].ID != one || m[1].ID != one || !same(all, ahead) {
			t.Fatalf("P17.4: Mend of %s with %s = %s, %d; behind it %s", short(c.l), short(c.got), short(m), err, short(all))
		}
		spoil(m, m)
		if !same(all, ahead) {
			t.Fatalf("P17.4: the answer written over, what was handed in is %s", short(all))
		}
	}
}

// What other lists are asked about, ahead or later, and what is refused, changes no answer.
func TestNothingIsKept(t *testing.T) {
	r := rand.New(rand.NewSource(4))
	var ls, gs []list
	for range 60 {
		w := someWrites(r, 4, 5)
		ls = append(ls, w.someRead(r))
		gs = append(gs, w.someVersions(r, 8))
	}
	ls[7], ls[20], ls[33] = nil, bottoms("a", "a"), bottoms(named(maxSet+1)...)
	others := func(i, j int) {
		Formed(ls[i])
		Cut(ls[i])
		Needs(ls[i])
		Mend(ls[i], gs[j])
		Mend(ls[i], gs[i])
	}
	for range 3000 {
		i, j := r.Intn(len(ls)), r.Intn(len(ls))
		wants, needErr := needsOf(ls[j])
		mended, mendErr := mendOf(ls[j], gs[j])
		others(i, j)
		n, e := Needs(ls[j])
		m, f := Mend(ls[j], gs[j])
		others(i, j)
		if e != needErr || f != mendErr || !slices.Equal(n, wants) || !same(m, mended) {
			t.Fatalf("P17.4: among calls on %s, of %s: %s, %d, %s, %d", short(ls[i]), short(ls[j]), short(n), e, short(m), f)
		}
	}
}
