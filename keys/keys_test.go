package keys

import (
	"math/rand"
	"slices"
	"strconv"
	"strings"
	"testing"

	"rampart/api"
)

// texts are some that stand close to each other in the order of bytes, and that an order of runes or of lengths would put elsewhere.
var texts = []string{"", "\x00", "\x00\x00", "A", "B", "a", "a\x00", "aa", "ab", "b", "ba", "z", "\x7f", "\x80", "\xc3", "ä", "\uffff", "\U00010000", "\xff", "\xff\xff"}

func long(n int) string { return strings.Repeat("x", n) }

// numbered are n texts, each once, not in order.
func numbered(n int) []string {
	var l []string
	for i := range n {
		l = append(l, strconv.Itoa(n-i))
	}
	return l
}

func pairsOf(l []string) []api.Pair {
	var pairs []api.Pair
	for i, k := range l {
		pairs = append(pairs, api.Pair{Key: k, Value: "v" + strconv.Itoa(i)})
	}
	return pairs
}

// The model: what the chapter says, in its own words, one text against each other.

func below(a, b string) bool {
	for i := range min(len(a), len(b)) {
		if a[i] != b[i] {
			return a[i] < b[i]
		}
	}
	return len(a) < len(b)
}

func modelValid(l []string) bool {
	if len(l) < 1 || len(l) > 1024 {
		return false
	}
	for i, k := range l {
		if len(k) > 65535 || slices.Index(l, k) != i {
			return false
		}
	}
	return true
}

func modelRising(l []string) bool {
	for i := 1; i < len(l); i++ {
		if !below(l[i-1], l[i]) {
			return false
		}
	}
	return true
}

// modelOrder puts each text in its place among those ahead of it.
func modelOrder(l []string) []string {
	var out []string
	for _, k := range l {
		at := 0
		for at < len(out) && below(out[at], k) {
			at++
		}
		out = slices.Insert(out, at, k)
	}
	return out
}

// modelSet is what of the texts of a and b is to be in an answer, in order.
func modelSet(a, b []string, in func(inA, inB bool) bool) []string {
	var l []string
	for _, k := range append(slices.Clone(a), b...) {
		if in(slices.Contains(a, k), slices.Contains(b, k)) && !slices.Contains(l, k) {
			l = append(l, k)
		}
	}
	return modelOrder(l)
}

// operation is a call of two lists, and what it is to take.
type operation struct {
	name string
	call func(a, b []string) ([]string, api.Errno)
	in   func(inA, inB bool) bool
}

var operations = []operation{
	{"Union", Union, func(inA, inB bool) bool { return inA || inB }},
	{"Common", Common, func(inA, inB bool) bool { return inA && inB }},
	{"Minus", Minus, func(inA, inB bool) bool { return inA && !inB }},
}

// short tells a list without its long texts.
func short(l []string) string {
	if len(l) > 24 {
		return strconv.Itoa(len(l)) + " texts"
	}
	var out []string
	for _, k := range l {
		if len(k) > 24 {
			k = strconv.Itoa(len(k)) + " bytes"
		}
		out = append(out, strconv.Quote(k))
	}
	return "(" + strings.Join(out, ", ") + ")"
}

func checkKeys(t *testing.T, l []string) {
	t.Helper()
	valid := modelValid(l)
	if Valid(l) != valid {
		t.Errorf("P4.1: Valid%s = %v", short(l), !valid)
	}
	if is := modelRising(l); Rising(l) != is {
		t.Errorf("P4.1: Rising%s = %v", short(l), !is)
	}
	s, err := Sorted(l)
	if !valid {
		if err != api.ErrKeys || len(s) > 0 {
			t.Errorf("P4.1: Sorted%s = %s, %d, want none, ErrKeys", short(l), short(s), int(err))
		}
		return
	}
	if err != api.OK || !slices.Equal(s, modelOrder(l)) {
		t.Errorf("P4.1: Sorted%s = %s, %d", short(l), short(s), int(err))
	}
	if !Valid(s) || !Rising(s) {
		t.Errorf("P4.3: Sorted%s is not Valid and rising", short(l))
	}
	if again, err := Sorted(s); err != api.OK || !slices.Equal(again, s) {
		t.Errorf("P4.3: Sorted of Sorted%s = %s, %d", short(l), short(again), int(err))
	}
}

func checkPairs(t *testing.T, l []api.Pair) {
	t.Helper()
	var names []string
	valid := true
	for _, p := range l {
		names = append(names, p.Key)
		valid = valid && len(p.Value) <= 65535
	}
	valid = valid && modelValid(names)
	if got := Names(l); !slices.Equal(got, names) {
		t.Errorf("P4.1: Names of %s = %s", short(names), short(got))
	}
	if ValidPairs(l) != valid {
		t.Errorf("P4.1: ValidPairs with the keys %s = %v", short(names), !valid)
	}
	n, err := Norm(l)
	if !valid {
		if err != api.ErrKeys || len(n) > 0 {
			t.Errorf("P4.1: Norm with the keys %s: %d pairs, %d, want none, ErrKeys", short(names), len(n), int(err))
		}
		return
	}
	if err != api.OK || len(n) != len(l) {
		t.Fatalf("P4.1: Norm with the keys %s: %d pairs, %d", short(names), len(n), int(err))
	}
	for i, k := range modelOrder(names) {
		if n[i].Key != k || n[i].Value != l[slices.Index(names, k)].Value {
			t.Errorf("P4.1: Norm with the keys %s: pair %d", short(names), i)
		}
	}
	if s, err := Sorted(Names(l)); err != api.OK || !slices.Equal(Names(n), s) {
		t.Errorf("P4.3: Names of Norm with the keys %s = %s, Sorted of Names = %s", short(names), short(Names(n)), short(s))
	}
}

func checkHas(t *testing.T, l []string, key string) {
	t.Helper()
	want := modelRising(l) && slices.Contains(l, key)
	if Has(l, key) != want {
		t.Errorf("P4.1: Has(%s, %s) = %v", short(l), short([]string{key}), !want)
	}
}

func checkSets(t *testing.T, a, b []string) {
	t.Helper()
	for _, o := range operations {
		got, err := o.call(a, b)
		if !modelRising(a) || !modelRising(b) {
			if err != api.ErrKeys || len(got) > 0 {
				t.Errorf("P4.1: %s(%s, %s) = %s, %d, want none, ErrKeys", o.name, short(a), short(b), short(got), int(err))
			}
			continue
		}
		if err != api.OK || !slices.Equal(got, modelSet(a, b, o.in)) {
			t.Errorf("P4.1: %s(%s, %s) = %s, %d", o.name, short(a), short(b), short(got), int(err))
		}
		for _, k := range append(slices.Concat(a, b), texts...) {
			if Has(got, k) != o.in(Has(a, k), Has(b, k)) {
				t.Errorf("P4.2: Has(%s(%s, %s), %q) = %v", o.name, short(a), short(b), k, Has(got, k))
			}
		}
	}
}

// checkLaws holds the calls of two rising lists against each other alone.
func checkLaws(t *testing.T, a, b []string) {
	t.Helper()
	union, _ := Union(a, b)
	common, _ := Common(a, b)
	minus, _ := Minus(a, b)
	if turned, err := Union(b, a); err != api.OK || !slices.Equal(turned, union) {
		t.Errorf("P4.2: Union of %s and %s hangs on which stands first", short(a), short(b))
	}
	if turned, err := Common(b, a); err != api.OK || !slices.Equal(turned, common) {
		t.Errorf("P4.2: Common of %s and %s hangs on which stands first", short(a), short(b))
	}
	if whole, err := Union(minus, common); err != api.OK || !slices.Equal(whole, a) {
		t.Errorf("P4.2: Union of Minus and Common of %s and %s = %s", short(a), short(b), short(whole))
	}
	if none, err := Common(minus, b); err != api.OK || len(none) > 0 {
		t.Errorf("P4.2: Minus(%s, %s) and the second have in common %s", short(a), short(b), short(none))
	}
}

// lists are the edges that the chapter names: those of a request, and those of rising.
func lists() [][]string {
	l := [][]string{
		nil, {}, {""}, {"a"}, {"", ""}, {"a", "a"}, {"a", "b"}, {"b", "a"}, {"b", "", "a"}, {"a", "b", "a"}, {"a", "b", "b"}, {"b", "b", "a"},
		{"a", "c", "b"}, {"c", "a", "b"}, {"ab", "a", "b"}, {"\xff", "\x7f", "\x80"}, {"\U00010000", "\uffff"}, {"\uffff", "\U00010000"},
		{long(65534)}, {long(65535)}, {long(65536)}, {long(65537)}, {"a", long(65535)}, {"a", long(65536)}, {long(65536), "a"},
		{"a", long(65536), "b"}, {long(65535), long(65535)}, {long(65534), long(65535)}, {long(65535), long(65534)},
		{long(65535), long(65536)}, {long(1 << 18), "y"}, {"y", long(1 << 18)},
		texts, numbered(2), numbered(1023), numbered(1024), numbered(1025), numbered(3000),
	}
	for _, n := range []int{1023, 1024, 1025, 3000} {
		rising := modelOrder(numbered(n))
		l = append(l, rising, append(slices.Clone(rising), rising[n-1]), append([]string{"zz"}, rising...))
	}
	twice := numbered(1024)
	twice[1023] = twice[0]
	return append(l, twice)
}

func TestKeysAtTheEdges(t *testing.T) {
	for _, l := range lists() {
		checkKeys(t, l)
		checkPairs(t, pairsOf(l))
	}
}

func TestAllShortLists(t *testing.T) {
	some := []string{"", "a", "aa", "b"}
	var grow func(l []string)
	grow = func(l []string) {
		checkKeys(t, l)
		checkPairs(t, pairsOf(l))
		for _, k := range some {
			checkHas(t, l, k)
		}
		if len(l) == 5 {
			return
		}
		for _, k := range some {
			grow(append(slices.Clone(l), k))
		}
	}
	grow(nil)
}

func TestValuesAtTheEdges(t *testing.T) {
	for _, n := range []int{0, 1, 65534, 65535, 65536, 65537, 1 << 18} {
		p := api.Pair{Key: "m", Value: long(n)}
		checkPairs(t, []api.Pair{p})
		checkPairs(t, []api.Pair{{Key: "a", Value: "1"}, p})
		checkPairs(t, []api.Pair{p, {Key: "a", Value: "1"}})
		checkPairs(t, []api.Pair{{Key: "z", Value: "1"}, p, {Key: "a", Value: long(65535)}})
		checkPairs(t, []api.Pair{p, p})
		checkPairs(t, []api.Pair{{Key: long(n), Value: "1"}})
		checkPairs(t, []api.Pair{{Key: long(n), Value: long(65535)}, {Key: "a"}})
	}
}

func TestSameKeysOtherValues(t *testing.T) {
	checkPairs(t, []api.Pair{{Key: "a", Value: "1"}, {Key: "a", Value: "2"}})
	checkPairs(t, []api.Pair{{Key: "a", Value: "2"}, {Key: "b", Value: "1"}, {Key: "a", Value: "1"}})
	checkPairs(t, []api.Pair{{Key: "b", Value: "1"}, {Key: "a", Value: "1"}})
	checkPairs(t, []api.Pair{{Key: "a", Value: "z"}, {Key: "b", Value: "a"}})
}

func TestRandomLists(t *testing.T) {
	r := rand.New(rand.NewSource(4))
	for range 3000 {
		var l []string
		for range r.Intn(8) {
			l = append(l, texts[r.Intn(len(texts))])
		}
		checkKeys(t, l)
		checkPairs(t, pairsOf(l))
		for _, k := range texts {
			checkHas(t, l, k)
		}
	}
}

func TestOneOrder(t *testing.T) {
	r := rand.New(rand.NewSource(43))
	for range 300 {
		perm := r.Perm(len(texts))[:1+r.Intn(len(texts))]
		var l []string
		for _, i := range perm {
			l = append(l, texts[i])
		}
		want, err := Sorted(l)
		if err != api.OK {
			t.Fatalf("P4.3: Sorted%s: %d", short(l), int(err))
		}
		for range 5 {
			r.Shuffle(len(l), func(i, j int) { l[i], l[j] = l[j], l[i] })
			if got, err := Sorted(l); err != api.OK || !slices.Equal(got, want) {
				t.Errorf("P4.3: Sorted%s = %s, %d, in another order %s", short(l), short(got), int(err), short(want))
			}
		}
	}
}

func TestHasAtTheEdges(t *testing.T) {
	for _, l := range lists() {
		for _, k := range append(texts, long(65535), long(65536), long(65537), long(1<<18), "1", "999", "2999", "1x", "zz") {
			checkHas(t, l, k)
		}
	}
	rising := modelOrder(numbered(3000))
	for _, k := range rising {
		if !Has(rising, k) || Has(rising, k+"x") {
			t.Errorf("P4.1: Has of %q and %q", k, k+"x")
		}
	}
}

func TestSetsAtTheEdges(t *testing.T) {
	small := slices.DeleteFunc(lists(), func(l []string) bool { return len(l) > 24 })
	for _, a := range small {
		for _, b := range small {
			checkSets(t, a, b)
			if modelRising(a) && modelRising(b) {
				checkLaws(t, a, b)
			}
		}
	}
}

// Rising lists may be longer, and hold longer texts, than those of a request.
func TestSetsOfMany(t *testing.T) {
	many := modelOrder(numbered(3000))
	var odd, even []string
	for i, k := range many {
		if i%2 == 0 {
			even = append(even, k)
		} else {
			odd = append(odd, k)
		}
	}
	for _, a := range [][]string{nil, many, odd, even, many[:1024], many[:1025], many[1500:]} {
		for _, b := range [][]string{nil, many, odd, even, many[:1600], {long(1 << 17)}} {
			for _, o := range operations {
				if got, err := o.call(a, b); err != api.OK || !slices.Equal(got, modelSet(a, b, o.in)) {
					t.Errorf("P4.1: %s of %d and %d texts: %d, %d", o.name, len(a), len(b), len(got), int(err))
				}
			}
			checkLaws(t, a, b)
		}
	}
}

func TestRandomSets(t *testing.T) {
	r := rand.New(rand.NewSource(42))
	draw := func() []string {
		var l []string
		for _, k := range modelOrder(texts) {
			if r.Intn(3) == 0 {
				l = append(l, k)
			}
		}
		if len(l) > 1 && r.Intn(8) == 0 {
			i := r.Intn(len(l) - 1)
			l[i], l[i+1] = l[i+1], l[i+r.Intn(2)]
		}
		return l
	}
	for range 1500 {
		a, b := draw(), draw()
		checkSets(t, a, b)
		if modelRising(a) && modelRising(b) {
			checkLaws(t, a, b)
		}
	}
}

// roomy is a list with spare room behind it, and that room as it was.
func roomy[T any](l []T, mark T) []T {
	out := make([]T, len(l), len(l)+8)
	copy(out, l)
	for i := range 8 {
		out[:cap(out)][len(l)+i] = mark
	}
	return out
}

// sameRoom tells whether a roomy list and its room are as they were.
func sameRoom[T comparable](l, was []T, mark T) bool {
	all := l[:cap(l)]
	for i, k := range all {
		if i < len(was) && k != was[i] || i >= len(was) && k != mark {
			return false
		}
	}
	return true
}

// spoil writes over an answer and all of its spare room.
func spoil[T any](l []T, with T) {
	all := l[:cap(l)]
	for i := range all {
		all[i] = with
	}
}

func TestMemoryOfLists(t *testing.T) {
	for _, was := range [][]string{nil, {"a"}, {"a", "b"}, {"b", "a"}, {"c", "a", "b"}, {"a", "a"}, {"b", "a", "b"}, numbered(1024), numbered(1025)} {
		l := roomy(was, "room")
		Valid(l)
		Rising(l)
		Has(l, "a")
		first, _ := Sorted(l)
		if !sameRoom(l, was, "room") {
			t.Fatalf("P4.4: %s was changed", short(was))
		}
		kept := slices.Clone(first)
		second, _ := Sorted(l)
		spoil(second, "spoilt")
		if !sameRoom(l, was, "room") || !slices.Equal(first, kept) {
			t.Errorf("P4.4: Sorted%s shares memory", short(was))
		}
		spoil(l, "spoilt")
		if !slices.Equal(first, kept) {
			t.Errorf("P4.4: Sorted%s shares memory with what came in", short(was))
		}
	}
}

func TestMemoryOfPairs(t *testing.T) {
	room := api.Pair{Key: "room", Value: "room"}
	for _, was := range [][]api.Pair{nil, {{Key: "a", Value: "1"}}, {{Key: "a", Value: "1"}, {Key: "b", Value: "2"}},
		{{Key: "b", Value: "1"}, {Key: "a", Value: "2"}}, {{Key: "b"}, {Key: "a"}, {Key: "b"}}, pairsOf(numbered(1024)), pairsOf(numbered(1025))} {
		l := roomy(was, room)
		ValidPairs(l)
		names := Names(l)
		first, _ := Norm(l)
		keptNames, kept := slices.Clone(names), slices.Clone(first)
		second, _ := Norm(l)
		others := Names(l)
		spoil(second, api.Pair{})
		spoil(others, "spoilt")
		if !sameRoom(l, was, room) {
			t.Fatalf("P4.4: %d pairs were changed", len(was))
		}
		spoil(l, api.Pair{})
		if !slices.Equal(first, kept) || !slices.Equal(names, keptNames) {
			t.Errorf("P4.4: Norm or Names of %d pairs share memory", len(was))
		}
	}
}

func TestMemoryOfSets(t *testing.T) {
	rising := [][]string{nil, {"a"}, {"b"}, {"a", "c"}, {"b", "c"}, {"a", "b", "c"}, {"d"}, {"b", "a"}}
	for _, wasA := range rising {
		for _, wasB := range rising {
			for _, o := range operations {
				a, b := roomy(wasA, "room"), roomy(wasB, "room")
				first, _ := o.call(a, b)
				kept := slices.Clone(first)
				second, _ := o.call(a, b)
				spoil(second, "spoilt")
				if !sameRoom(a, wasA, "room") || !sameRoom(b, wasB, "room") {
					t.Errorf("P4.4: %s(%s, %s) changed or shares what came in", o.name, short(wasA), short(wasB))
				}
				spoil(a, "spoilt")
				spoil(b, "spoilt")
				if !slices.Equal(first, kept) {
					t.Errorf("P4.4: %s(%s, %s) shares memory", o.name, short(wasA), short(wasB))
				}
			}
		}
	}
}

// A list may come in as both.
func TestSetsOfOneList(t *testing.T) {
	for _, was := range [][]string{nil, {""}, {"a", "b"}, modelOrder(numbered(2000))} {
		l := roomy(was, "room")
		union, e := Union(l, l)
		common, f := Common(l, l)
		minus, g := Minus(l, l)
		if e != api.OK || f != api.OK || g != api.OK || !slices.Equal(union, was) || !slices.Equal(common, was) || len(minus) > 0 {
			t.Errorf("P4.2: %s with itself: %s, %s, %s", short(was), short(union), short(common), short(minus))
		}
		spoil(union, "spoilt")
		spoil(common, "spoilt")
		if !sameRoom(l, was, "room") {
			t.Errorf("P4.4: %s with itself was changed", short(was))
		}
	}
}

func TestExamples(t *testing.T) {
	if !Valid([]string{"b", "a"}) || Valid(nil) || Valid([]string{"a", "a"}) || Valid([]string{long(65536)}) || Valid(numbered(1025)) || !Valid([]string{""}) {
		t.Error("P4.1: example 1, Valid")
	}
	if !ValidPairs([]api.Pair{{Key: "a", Value: "1"}, {Key: "b"}}) || ValidPairs([]api.Pair{{Key: "a", Value: "1"}, {Key: "a", Value: "2"}}) ||
		ValidPairs([]api.Pair{{Key: "a", Value: long(65536)}}) {
		t.Error("P4.1: example 1, ValidPairs")
	}
	if l, err := Sorted([]string{"b", "", "a"}); err != api.OK || !slices.Equal(l, []string{"", "a", "b"}) {
		t.Errorf("P4.1: example 2, Sorted: %q, %d", l, int(err))
	}
	if l, err := Sorted([]string{"a", "a"}); err != 40 || len(l) > 0 {
		t.Errorf("P4.1: example 2, Sorted: %q, %d", l, int(err))
	}
	if l, err := Norm([]api.Pair{{Key: "b", Value: "1"}, {Key: "a", Value: "2"}}); err != api.OK || !slices.Equal(l, []api.Pair{{Key: "a", Value: "2"}, {Key: "b", Value: "1"}}) {
		t.Errorf("P4.1: example 2, Norm: %v, %d", l, int(err))
	}
	if l := Names([]api.Pair{{Key: "b", Value: "1"}, {Key: "a", Value: "2"}, {Key: "b", Value: "3"}}); !slices.Equal(l, []string{"b", "a", "b"}) {
		t.Errorf("P4.1: example 2, Names: %q", l)
	}
	if !Rising(nil) || !Rising([]string{"a", "b"}) || Rising([]string{"a", "a"}) || Rising([]string{"b", "a"}) {
		t.Error("P4.1: example 3, Rising")
	}
	if Has([]string{"a", "c"}, "b") || Has([]string{"c", "a"}, "a") {
		t.Error("P4.1: example 3, Has")
	}
	a, b := []string{"a", "c"}, []string{"b", "c"}
	want := [][]string{{"a", "b", "c"}, {"c"}, {"a"}}
	for i, o := range operations {
		if l, err := o.call(a, b); err != api.OK || !slices.Equal(l, want[i]) {
			t.Errorf("P4.1: example 4, %s: %q, %d", o.name, l, int(err))
		}
	}
	if l, err := Union([]string{"b", "a"}, []string{"a"}); err != api.ErrKeys || len(l) > 0 {
		t.Errorf("P4.1: example 4, Union: %q, %d", l, int(err))
	}
}
