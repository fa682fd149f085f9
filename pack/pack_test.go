package pack

import (
	"bytes"
	"encoding/binary"
	"math"
	"math/rand"
	"slices"
	"strings"
	"testing"

	"rampart/api"
)

// modelWriter is the chapter's writer, told by whole calls: each call's bytes are made first, then held against the limit.
type modelWriter struct {
	limit int
	out   []byte
	err   api.Errno
}

func (m *modelWriter) call(b []byte) {
	if m.err == api.OK && len(m.out)+len(b) > m.limit {
		m.err = api.ErrLong
	}
	if m.err == api.OK {
		m.out = append(m.out, b...)
	}
}

func textBytes(s string) []byte {
	return append(binary.BigEndian.AppendUint32(nil, uint32(len(s))), s...)
}

func textsBytes(l []string) []byte {
	b := binary.BigEndian.AppendUint32(nil, uint32(len(l)))
	for _, s := range l {
		b = append(b, textBytes(s)...)
	}
	return b
}

// modelReader is the chapter's reader: an attempt on a copy, kept only if it made no error.
type modelReader struct {
	b   []byte
	at  int
	err api.Errno
}

func (m *modelReader) attempt(f func(c *modelReader)) bool {
	if m.err != api.OK {
		return false
	}
	c := *m
	f(&c)
	if c.err != api.OK {
		m.err = c.err
		return false
	}
	*m = c
	return true
}

func (m *modelReader) bytes(n int) []byte {
	if m.err != api.OK {
		return nil
	}
	if m.at+n > len(m.b) {
		m.err = api.ErrShort
		return nil
	}
	m.at += n
	return m.b[m.at-n : m.at]
}

func (m *modelReader) count(most int) int {
	b := m.bytes(4)
	if m.err != api.OK {
		return 0
	}
	n := int(binary.BigEndian.Uint32(b))
	if n > 0 && n > most {
		m.err = api.ErrLong
		return 0
	}
	return n
}

func (m *modelReader) text(most int) string { return string(m.bytes(m.count(most))) }

// texts stops at the first error, as a claimed count may be far above what is there.
func (m *modelReader) texts(count, most int) []string {
	n := m.count(count)
	var l []string
	for i := 0; i < n && m.err == api.OK; i++ {
		l = append(l, m.text(most))
	}
	return l
}

func isWriter(t *testing.T, where string, w *Writer, m *modelWriter) {
	t.Helper()
	want := m.out
	if m.err != api.OK {
		want = nil
	}
	b, e := w.Out()
	if !bytes.Equal(b, want) || e != m.err || w.Len() != len(m.out) {
		t.Fatalf("P2.1: %s: Out = % x, %d, Len = %d, want % x, %d, %d", where, b, e, w.Len(), want, m.err, len(m.out))
	}
}

func isReader(t *testing.T, where string, r *Reader, m *modelReader) {
	t.Helper()
	left := len(m.b) - m.at
	end := m.err
	if end == api.OK && left > 0 {
		end = api.ErrTrail
	}
	if e, n, x := r.End(), r.Left(), r.Err(); e != end || n != left || x != m.err {
		t.Fatalf("P2.1: %s: End = %d, Left = %d, Err = %d, want %d, %d, %d", where, e, n, x, end, left, m.err)
	}
}

func randomText(g *rand.Rand) string {
	b := make([]byte, g.Intn(4)*g.Intn(4))
	g.Read(b)
	return string(b)
}

func randomTexts(g *rand.Rand) []string {
	var l []string
	for range g.Intn(4) {
		l = append(l, randomText(g))
	}
	return l
}

// number has all bytes of 8 at play, and small numbers often.
func number(g *rand.Rand) uint64 { return g.Uint64() >> g.Intn(64) }

// A step is one call, made on a writer, on its model, and later on a reader that must tell what was written.
type step struct {
	kind  int
	v     uint64
	text  string
	texts []string
}

func randomStep(g *rand.Rand) step {
	return step{kind: g.Intn(5), v: number(g), text: randomText(g), texts: randomTexts(g)}
}

func (s step) write(w *Writer) {
	switch s.kind {
	case 0:
		w.U8(uint8(s.v))
	case 1:
		w.U32(uint32(s.v))
	case 2:
		w.U64(s.v)
	case 3:
		w.Text(s.text)
	case 4:
		w.Texts(s.texts)
	}
}

func (s step) bytes() []byte {
	switch s.kind {
	case 0:
		return []byte{byte(s.v)}
	case 1:
		return binary.BigEndian.AppendUint32(nil, uint32(s.v))
	case 2:
		return binary.BigEndian.AppendUint64(nil, s.v)
	case 3:
		return textBytes(s.text)
	}
	return textsBytes(s.texts)
}

// reads makes the call that reads the step, with limits that are just enough, and tells whether it told what was written.
func (s step) reads(r *Reader) bool {
	switch s.kind {
	case 0:
		return r.U8() == uint8(s.v)
	case 1:
		return r.U32() == uint32(s.v)
	case 2:
		return r.U64() == s.v
	case 3:
		return r.Text(len(s.text)) == s.text
	}
	most := 0
	for _, x := range s.texts {
		most = max(most, len(x))
	}
	return slices.Equal(r.Texts(len(s.texts), most), s.texts)
}

func TestWriterScripts(t *testing.T) {
	g := rand.New(rand.NewSource(21))
	for range 3000 {
		limit := g.Intn(80) - 3
		w, m := NewWriter(limit), &modelWriter{limit: limit}
		for range 8 {
			s := randomStep(g)
			s.write(w)
			m.call(s.bytes())
			isWriter(t, "a script", w, m)
		}
	}
}

func TestWriterLimits(t *testing.T) {
	g := rand.New(rand.NewSource(22))
	for _, s := range []step{{kind: 0, v: 255}, {kind: 1, v: 1<<32 - 2}, {kind: 2, v: 1<<64 - 2}, {kind: 3}, {kind: 3, text: "abc"}, {kind: 4}, {kind: 4, texts: []string{"", "x", ""}}} {
		size := len(s.bytes())
		for _, ahead := range []int{0, 1, 9} {
			for _, over := range []int{-size - ahead - 1, -size - ahead, -1, 0, 1, math.MaxInt - size - ahead} {
				limit := ahead + size + over
				w, m := NewWriter(limit), &modelWriter{limit: limit}
				for range ahead {
					w.U8(3)
					m.call([]byte{3})
				}
				s.write(w)
				m.call(s.bytes())
				isWriter(t, "around the limit", w, m)
				for range 5 {
					x := randomStep(g)
					x.write(w)
					m.call(x.bytes())
					isWriter(t, "behind the limit", w, m)
				}
			}
		}
	}
	for _, limit := range []int{math.MinInt, -1} {
		w := NewWriter(limit)
		if b, e := w.Out(); len(b) != 0 || e != api.OK || w.Len() != 0 {
			t.Errorf("P2.1: a new writer of limit %d: % x, %d", limit, b, e)
		}
	}
}

// The same long text many times over: only its sizes are added up, nothing is laid out.
func TestWriterManyLongTexts(t *testing.T) {
	l := make([]string, 1<<12)
	long := strings.Repeat("x", 1<<18)
	for i := range l {
		l[i] = long
	}
	for _, limit := range []int{0, 3, 4, 1 << 20, 1<<30 - 1} {
		w := NewWriter(limit)
		w.Texts(l)
		if _, e := w.Out(); e != api.ErrLong || w.Len() != 0 {
			t.Errorf("P2.3: limit %d: %d, Len = %d", limit, e, w.Len())
		}
	}
}

func TestExampleOfWriter(t *testing.T) {
	w := NewWriter(20)
	w.U8(7)
	w.U32(258)
	w.Text("ab")
	if b, e := w.Out(); !bytes.Equal(b, []byte{7, 0, 0, 1, 2, 0, 0, 0, 2, 97, 98}) || e != api.OK || w.Len() != 11 {
		t.Errorf("P2.1: % x, %d, Len = %d", b, e, w.Len())
	}
	w.Texts([]string{"", "x"})
	if b, e := w.Out(); len(b) != 0 || e != api.ErrLong || w.Len() != 11 {
		t.Errorf("P2.3: % x, %d, Len = %d", b, e, w.Len())
	}
	w.U8(1)
	if b, e := w.Out(); len(b) != 0 || e != api.ErrLong || w.Len() != 11 {
		t.Errorf("P2.3: behind the error: % x, %d, Len = %d", b, e, w.Len())
	}
}

// readBoth makes one call on a reader and its model, and holds what they tell against each other.
func readBoth(t *testing.T, kind, count, most int, r *Reader, m *modelReader) {
	t.Helper()
	var got, want uint64
	var gotTexts, wantTexts []string
	switch kind {
	case 0:
		got = uint64(r.U8())
		m.attempt(func(c *modelReader) { want = numberOf(c.bytes(1)) })
	case 1:
		got = uint64(r.U32())
		m.attempt(func(c *modelReader) { want = numberOf(c.bytes(4)) })
	case 2:
		got = r.U64()
		m.attempt(func(c *modelReader) { want = numberOf(c.bytes(8)) })
	case 3:
		got = uint64(r.Count(most))
		m.attempt(func(c *modelReader) { want = uint64(c.count(most)) })
	case 4:
		gotTexts, wantTexts = []string{r.Text(most)}, []string{""}
		m.attempt(func(c *modelReader) { wantTexts[0] = c.text(most) })
	case 5:
		gotTexts = r.Texts(count, most)
		if !m.attempt(func(c *modelReader) { wantTexts = c.texts(count, most) }) {
			wantTexts = nil
		}
	}
	if got != want || !slices.Equal(gotTexts, wantTexts) {
		t.Fatalf("P2.1: call %d (%d, %d): %d, %q, want %d, %q", kind, count, most, got, gotTexts, want, wantTexts)
	}
	isReader(t, "a script", r, m)
}

func numberOf(b []byte) uint64 {
	var full [8]byte
	copy(full[8-len(b):], b)
	return binary.BigEndian.Uint64(full[:])
}

// randomBytes are mostly small numbers of 4 bytes, so that lengths and counts often fit.
func randomBytes(g *rand.Rand) []byte {
	var b []byte
	for range g.Intn(8) {
		switch g.Intn(4) {
		case 0:
			b = append(b, byte(g.Intn(256)))
		case 1:
			b = binary.BigEndian.AppendUint32(b, g.Uint32()>>g.Intn(32))
		default:
			b = binary.BigEndian.AppendUint32(b, uint32(g.Intn(4)))
		}
	}
	return b
}

func TestReaderScripts(t *testing.T) {
	g := rand.New(rand.NewSource(23))
	edges := []int{math.MinInt, -1, 0, 1, 2, 3, 1 << 31, 1<<32 - 1, 1 << 32, math.MaxInt}
	for range 30000 {
		b := randomBytes(g)
		r, m := NewReader(b), &modelReader{b: b}
		isReader(t, "a new one", r, m)
		for range 6 {
			readBoth(t, g.Intn(6), edges[g.Intn(len(edges))], edges[g.Intn(len(edges))], r, m)
		}
	}
}

// Each step's own bytes, cut anywhere, with every limit around the true one.
func TestReaderCuts(t *testing.T) {
	all := textsBytes([]string{"ab", "", "xyz"})
	for cut := range len(all) + 1 {
		for count := -1; count < 5; count++ {
			for most := -1; most < 5; most++ {
				for kind := range 6 {
					r, m := NewReader(all[:cut]), &modelReader{b: all[:cut]}
					readBoth(t, kind, count, most, r, m)
					readBoth(t, kind, count, most, r, m)
				}
			}
		}
	}
}

func TestReaderOrderOfErrors(t *testing.T) {
	for i, c := range []struct {
		b           []byte
		kind        int
		count, most int
		want        api.Errno
	}{
		{[]byte{255, 255, 255}, 3, 0, 0, api.ErrShort},
		{[]byte{255, 255, 255}, 4, 0, 0, api.ErrShort},
		{[]byte{255, 255, 255}, 5, 0, 0, api.ErrShort},
		{[]byte{0, 0, 0, 9}, 4, 0, 8, api.ErrLong},
		{[]byte{0, 0, 0, 9}, 4, 0, 9, api.ErrShort},
		{[]byte{0, 0, 0, 9}, 5, 8, 9, api.ErrLong},
		{[]byte{0, 0, 0, 9}, 5, 9, 9, api.ErrShort},
		{[]byte{0, 0, 0, 2, 0, 0, 0, 1, 120, 0, 0, 0, 2}, 5, 2, 1, api.ErrLong},
		{[]byte{0, 0, 0, 2, 0, 0, 0, 2}, 5, 2, 1, api.ErrLong},
		{[]byte{0, 0, 0, 2, 0, 0, 0, 1}, 5, 2, 1, api.ErrShort},
		{[]byte{0, 0, 0, 1, 0, 0, 0, 1, 120}, 5, 0, 0, api.ErrLong},
		{[]byte{255, 255, 255, 255}, 5, math.MaxInt, 0, api.ErrShort},
		{[]byte{255, 255, 255, 255, 120}, 4, 0, math.MaxInt, api.ErrShort},
	} {
		r, m := NewReader(c.b), &modelReader{b: c.b}
		readBoth(t, c.kind, c.count, c.most, r, m)
		if r.Err() != c.want || r.Left() != len(c.b) {
			t.Errorf("P2.3: row %d: %d, %d left, want %d, %d left", i, r.Err(), r.Left(), c.want, len(c.b))
		}
		for kind := range 6 {
			readBoth(t, kind, 9, 9, r, m)
		}
		if r.Err() != c.want || r.End() != c.want || r.Left() != len(c.b) {
			t.Errorf("P2.3: row %d: behind the error: %d, %d left", i, r.Err(), r.Left())
		}
	}
}

func TestEndMakesNoError(t *testing.T) {
	r := NewReader([]byte{1, 2})
	if r.End() != api.ErrTrail || r.Err() != api.OK || r.U8() != 1 || r.End() != api.ErrTrail || r.U8() != 2 || r.End() != api.OK {
		t.Error("P2.1: End makes an error")
	}
	if r.U8() != 0 || r.End() != api.ErrShort || r.Err() != api.ErrShort {
		t.Error("P2.1: End doesn't tell the first error")
	}
}

func TestExamplesOfReader(t *testing.T) {
	b := []byte{7, 0, 0, 1, 2, 0, 0, 0, 2, 97, 98}
	r := NewReader(b)
	if r.U8() != 7 || r.U32() != 258 || r.Text(2) != "ab" || r.End() != api.OK {
		t.Error("P2.1: the first reader of example 2")
	}
	r = NewReader(b)
	r.U8()
	r.U32()
	if r.Text(1) != "" || r.Err() != api.ErrLong || r.Left() != 6 {
		t.Error("P2.1: the second reader of example 2")
	}
	two := []byte{0, 0, 0, 2, 0, 0, 0, 0, 0, 0, 0, 1}
	r = NewReader(two)
	if len(r.Texts(2, 9)) != 0 || r.Err() != api.ErrShort || r.Left() != 12 {
		t.Error("P2.1: Texts(2, 9) of example 3")
	}
	r = NewReader(two)
	if len(r.Texts(1, 9)) != 0 || r.Err() != api.ErrLong || r.Left() != 12 {
		t.Error("P2.1: Texts(1, 9) of example 3")
	}
	five := []byte{0, 0, 0, 5}
	r = NewReader(five)
	if r.Count(4) != 0 || r.Err() != api.ErrLong || r.Left() != 4 {
		t.Error("P2.1: Count(4) of example 3")
	}
	r = NewReader(five)
	if r.Count(5) != 5 || r.Err() != api.OK || r.Left() != 0 {
		t.Error("P2.1: Count(5) of example 3")
	}
	r = NewReader(five)
	if r.Text(5) != "" || r.Err() != api.ErrShort || r.Left() != 4 {
		t.Error("P2.1: Text(5) of example 3")
	}
}

func TestThereAndBack(t *testing.T) {
	g := rand.New(rand.NewSource(24))
	for range 3000 {
		steps := make([]step, g.Intn(7))
		w := NewWriter(1 << 20)
		for i := range steps {
			steps[i] = randomStep(g)
			steps[i].write(w)
		}
		b, e := w.Out()
		if e != api.OK {
			t.Fatalf("P2.2: Out: %d", e)
		}
		r := NewReader(b)
		for i, s := range steps {
			if !s.reads(r) {
				t.Fatalf("P2.2: call %d doesn't tell %+v", i, s)
			}
		}
		if r.End() != api.OK {
			t.Fatalf("P2.2: End = %d", r.End())
		}
		if len(b) > 0 && readAll(steps, b[:len(b)-1]).Err() != api.ErrShort {
			t.Fatalf("P2.2: % x without its last byte is read", b)
		}
		if end := readAll(steps, append(b, 0)).End(); end != api.ErrTrail {
			t.Fatalf("P2.2: % x with a byte more: End = %d", b, end)
		}
	}
}

func readAll(steps []step, b []byte) *Reader {
	r := NewReader(b)
	for _, s := range steps {
		s.reads(r)
	}
	return r
}

func TestWriterSharesNothing(t *testing.T) {
	l := make([]string, 2, 5)
	l[0], l[1] = "a", "bc"
	spare := l[:5]
	spare[4] = "spare"
	w, other := NewWriter(100), NewWriter(100)
	w.Texts(l)
	if !slices.Equal(spare, []string{"a", "bc", "", "", "spare"}) {
		t.Errorf("P2.4: the list was changed: %q", spare)
	}
	l[0] = "zzz"
	want := textsBytes([]string{"a", "bc"})
	b, _ := w.Out()
	if !bytes.Equal(b, want) {
		t.Errorf("P2.4: the list was kept: % x", b)
	}
	for i := range b[:cap(b)] {
		b[:cap(b)][i] = 99
	}
	again, _ := w.Out()
	w.U8(1)
	later, _ := w.Out()
	if !bytes.Equal(again, want) || !bytes.Equal(later, append(slices.Clone(want), 1)) {
		t.Errorf("P2.4: what was told isn't new memory: % x, % x", again, later)
	}
	if other.Len() != 0 {
		t.Error("P2.4: two writers know of one another")
	}
	other.U8(8)
	if got, _ := w.Out(); !bytes.Equal(got, later) {
		t.Error("P2.4: two writers know of one another")
	}
}

func TestReaderSharesNothing(t *testing.T) {
	room := append(textsBytes([]string{"ab", "c"}), 5, 6, 7, 8)
	b := room[: len(room)-3 : len(room)]
	was := slices.Clone(room)
	r, other := NewReader(b), NewReader(b)
	for i := range room {
		room[i] = 200
	}
	l := r.Texts(2, 2)
	if !slices.Equal(l, []string{"ab", "c"}) || r.Left() != 1 {
		t.Errorf("P2.4: the bytes were kept: %q, %d left", l, r.Left())
	}
	l[0] = "zzz"
	if again := other.Texts(2, 2); !slices.Equal(again, []string{"ab", "c"}) {
		t.Errorf("P2.4: two readers know of one another: %q", again)
	}
	if r.U8() != 5 || r.End() != api.OK || other.Left() != 1 {
		t.Error("P2.4: two readers know of one another")
	}
	if r.U8() != 0 || other.Err() != api.OK || other.U8() != 5 {
		t.Error("P2.4: two readers know of one another's errors")
	}
	copy(room, was)
	r = NewReader(b)
	r.Texts(2, 2)
	r.U64()
	if !bytes.Equal(room, was) {
		t.Errorf("P2.4: the bytes were changed: % x", room)
	}
	if NewReader(nil).End() != api.OK || NewReader([]byte{}).End() != api.OK {
		t.Error("P2.4: nil and empty differ")
	}
}
