package keep_test

import (
	"bytes"
	"math/rand/v2"
	"slices"
	"strings"
	"testing"

	"watershed/api"
	"watershed/keep"
)

// source gives arbitrary arguments.
type source struct{ *rand.Rand }

func newSource(n uint64) source {
	return source{rand.New(rand.NewPCG(11, n))}
}

// window is of any kind but WinNone, with a size that is mostly small.
func (s source) window() api.Window {
	size := 1 + s.IntN(20)
	if s.IntN(10) == 0 {
		size = 1 + s.IntN(maxSize)>>s.IntN(20)
	}
	switch s.IntN(3) {
	case 0:
		return tumble(size)
	case 1:
		return session(size)
	}
	least := (size + 15) / 16
	return slide(size, least+s.IntN(size-least+1))
}

// agg is an aggregate of a flow with windows.
func (s source) agg() int {
	return 1 + s.IntN(4)
}

// key is one of a few, several of them in one group.
func (s source) key() string {
	return []string{"", "a", "b", "c", "aa", x, y, "\xff"}[s.IntN(8)]
}

// value is mostly small.
func (s source) value() int {
	if s.IntN(5) == 0 {
		return int(s.Uint64()) >> s.IntN(64)
	}
	return s.IntN(21) - 10
}

// record is one that is right, some time behind a mark, or a little ahead of it.
func (s source) record(w api.Window, mark int) api.Record {
	time := mark - 2 + s.IntN(3+3*w.Size)
	return rec(s.key(), max(0, min(maxTime, time)), s.value())
}

// wild is any int, near a limit or not.
func (s source) wild() int {
	switch s.IntN(4) {
	case 0:
		return ends[s.IntN(len(ends))]
	case 1:
		return []int{0, 1, 15, 16, maxSize, maxTime, forever, 5, 12}[s.IntN(9)] - 2 + s.IntN(5)
	}
	return int(s.Uint64()) >> s.IntN(64)
}

// wildRecord may have a wrong key, a wrong time, or both.
func (s source) wildRecord() api.Record {
	return rec(strings.Repeat(s.key(), s.IntN(20)), s.wild(), s.wild())
}

func TestNilKeep(t *testing.T) { // P11.6, R3: also with arguments that are errors by themselves
	var k *keep.Keep
	for _, r := range recs(rec("a", 3, 1), rec("", 0, 0), rec(key(17), 3, 1), rec("a", -1, 1), rec(key(17), forever, 1)) {
		checkPut(t, k, r, nil, api.ErrNil)
	}
	for _, at := range slices.Concat([]int{-1, 0, 1, forever, forever + 1}, ends) {
		checkMark(t, k, at, nil, api.ErrNil)
	}
	for _, g := range slices.Concat([]int{0, 12, 15}, noGroups) {
		checkSave(t, k, g, nil, api.ErrNil)
	}
	for _, b := range [][]byte{nil, {0}, encode(12, 0), encode(16, 0), encode(12, 0, pane("a", 0, 10, 1)), bytes.Repeat([]byte{0xff}, 100)} {
		checkLoad(t, k, b, api.ErrNil)
	}
	checkAt(t, k, 0)
	checkOpen(t, k)
}

func TestNumbersOfErrors(t *testing.T) { // the chapter's list of errors
	var none *keep.Keep
	k := made(t, tumble(10), api.AggSum)
	_, arg := keep.New(tumble(10), 0)
	_, nothing := none.Mark(0)
	k.Mark(5)
	_, late := k.Put(rec("a", 4, 1))
	form := k.Load(nil)
	k.Load(encode(12, 5))
	if twice := k.Load(encode(12, 5)); arg != 1 || nothing != 3 || form != 4 || late != 7 || twice != 52 {
		t.Errorf("the errors are %d, %d, %d, %d, %d", arg, nothing, form, late, twice)
	}
}

func TestResultsAreApart(t *testing.T) { // R2: what is done to a result changes no keep, and no other result
	k, plain := made(t, session(5), api.AggSum), made(t, none(), 0)
	s, _ := newSecond(session(5), api.AggSum)
	junk := pane("junk", 1, 2, 3)
	for i := range 50 {
		r := rec([]string{"a", "b", x}[i%3], 7*i, i)
		put(t, k, r)
		s.put(r)
		first, again := k.Open(), k.Open()
		for n := range first {
			first[n] = junk
		}
		_ = append(first, junk, junk)
		if !slices.Equal(again, s.open()) {
			t.Fatalf("the second Open() becomes %v", again)
		}
		want, _ := s.setMark(6 * i)
		got, _ := k.Mark(6 * i)
		if !slices.Equal(got, want) {
			t.Fatalf("Mark(%d) = %v, want %v", 6*i, got, want)
		}
		for n := range got {
			got[n] = rec("junk", 1, 2)
		}
		_ = append(got, rec("junk", 1, 2))
		checkSame(t, k, s)
		one, _ := plain.Put(r)
		one[0].Key = "junk"
		_ = append(one, rec("junk", 1, 2))
		checkPut(t, plain, r, recs(r), api.OK)
	}
}

// step makes one arbitrary call of a keep and of the second reading.
func (s source) step(t *testing.T, k *keep.Keep, m *second) {
	t.Helper()
	r, at := s.record(m.w, m.mark), m.mark+s.IntN(m.w.Size+3)-1
	switch s.IntN(12) {
	case 0:
		r = s.wildRecord()
	case 1:
		at = s.wild()
	case 2, 3, 4:
		want, e := m.setMark(at)
		checkMark(t, k, at, want, e)
		return
	case 5:
		b := s.image(m)
		checkLoad(t, k, b, m.load(b))
		return
	}
	want, e := m.put(r)
	checkPut(t, k, r, want, e)
}

// image is the encoding of a group, mostly one that may be loaded.
func (s source) image(m *second) []byte {
	other, _ := newSecond(m.w, m.agg)
	if at := m.mark; s.IntN(4) > 0 {
		other.setMark(at)
	}
	if m.w.Kind != api.WinNone {
		for range s.IntN(6) {
			other.put(s.record(m.w, m.mark))
		}
	}
	b, _ := other.save(s.IntN(nGroups))
	for i, p := range other.panes { // a group with panes
		if i == 0 || s.IntN(3) == 0 {
			b, _ = other.save(secondGroup(p.Key))
		}
	}
	if s.IntN(3) == 0 {
		b = s.spoilt(b)
	}
	return b
}

// spoilt returns bytes with a few changes.
func (s source) spoilt(b []byte) []byte {
	b = slices.Clone(b)
	for range 1 + s.IntN(3) {
		i := s.IntN(len(b) + 1)
		switch {
		case i == len(b) || s.IntN(4) == 0:
			b = slices.Insert(b, i, byte(s.Uint32()))
		case s.IntN(3) == 0:
			b = slices.Delete(b, i, i+1)
		case s.IntN(2) == 0:
			b[i] ^= 1 << s.IntN(8)
		default:
			b[i] = byte(s.Uint32())
		}
	}
	return b
}

func TestArbitraryCalls(t *testing.T) { // P11.2 to P11.5, R1: against the second reading
	s := newSource(1)
	for range 6000 {
		w, agg := s.window(), s.agg()
		if s.IntN(20) == 0 {
			w, agg = none(), 0
		}
		k := made(t, w, agg)
		m, _ := newSecond(w, agg)
		for range s.IntN(40) {
			s.step(t, k, m)
			if s.IntN(8) == 0 {
				checkSame(t, k, m)
			}
			if t.Failed() {
				t.Fatalf("%v, %d", w, agg)
			}
		}
		checkSame(t, k, m)
	}
}

func TestArbitraryBytes(t *testing.T) { // P11.5, R1: of any form, and such as are nearly right
	s := newSource(2)
	met := map[api.Errno]int{}
	for range 20000 {
		w := s.window()
		k := made(t, w, api.AggSum)
		m, _ := newSecond(w, api.AggSum)
		for range 3 {
			b := s.image(m)
			if s.IntN(4) == 0 {
				b = make([]byte, s.IntN(40))
				for i := range b {
					b[i] = byte(s.Uint32()) >> s.IntN(8)
				}
			}
			e := m.load(b)
			met[e]++
			checkLoad(t, k, b, e)
			checkAt(t, k, m.mark)
			checkOpen(t, k, m.open()...)
			if t.Failed() {
				t.Fatalf("%v: % x", w, b)
			}
		}
	}
	for _, e := range []api.Errno{api.OK, api.ErrForm, api.ErrTwice} {
		if met[e] < 1000 {
			t.Errorf("Load returned %d only %d times", e, met[e])
		}
	}
}

func TestWildCalls(t *testing.T) { // R1: any ints and strings at all
	s := newSource(3)
	for range 3000 {
		w := api.Window{Kind: s.IntN(6) - 1, Size: s.wild(), Slide: s.wild()}
		if s.IntN(2) == 0 {
			w = s.window()
		}
		agg := s.IntN(7) - 1
		k, e := keep.New(w, agg)
		m, want := newSecond(w, agg)
		if e != want || (k == nil) != (m == nil) {
			t.Fatalf("New(%v, %d) = %v, %d, want %d", w, agg, k, e, want)
		}
		if m == nil {
			checkPut(t, k, s.wildRecord(), nil, api.ErrNil)
			continue
		}
		for range 20 {
			r, at, g := s.wildRecord(), s.wild(), s.wild()
			l, e := m.put(r)
			checkPut(t, k, r, l, e)
			l, e = m.setMark(at)
			checkMark(t, k, at, l, e)
			b, e := m.save(g)
			checkSave(t, k, g, b, e)
			if t.Failed() {
				t.Fatalf("%v, %d", w, agg)
			}
		}
		checkSame(t, k, m)
	}
}

func TestCallsDoNotHangOnTheMap(t *testing.T) { // R2: the same calls give the same, however often they are made
	s := newSource(4)
	for range 50 {
		w := s.window()
		var l []api.Record
		for range 60 {
			l = append(l, rec(s.key()+s.key(), s.IntN(5*w.Size), s.value()))
		}
		wanted, _ := newSecond(w, api.AggSum)
		for _, r := range l {
			wanted.put(r)
		}
		open := wanted.open()
		want, _ := wanted.setMark(2 * w.Size)
		for range 5 {
			k := made(t, w, api.AggSum)
			put(t, k, l...)
			checkOpen(t, k, open...)
			checkMark(t, k, 2*w.Size, want, api.OK)
			checkSame(t, k, wanted)
		}
	}
}
