package keep_test

import (
	"math"
	"slices"
	"strings"
	"testing"

	"watershed/api"
	"watershed/keep"
)

// key returns a key of n bytes.
func key(n int) string {
	return strings.Repeat("k", n)
}

func TestPutKeys(t *testing.T) { // P11.2: up to 16 bytes, whichever they are
	for _, w := range windows {
		for _, n := range []int{0, 1, 15, 16} {
			for _, name := range []string{key(n), strings.Repeat("\xff", n), strings.Repeat("\x00", n)} {
				k := made(t, w, anAgg(w))
				s, _ := newSecond(w, anAgg(w))
				want, _ := s.put(rec(name, 12, 5))
				checkPut(t, k, rec(name, 12, 5), want, api.OK)
				checkSame(t, k, s)
			}
		}
		for _, n := range []int{17, 18, 32, 1000} {
			k := made(t, w, anAgg(w))
			checkPut(t, k, rec(key(n), 12, 5), nil, api.ErrArg)
			checkPut(t, k, rec(strings.Repeat("\xff", n), 12, 5), nil, api.ErrArg)
			checkOpen(t, k)
			checkFresh(t, k, true)
		}
		// Sixteen characters, but more than 16 bytes.
		checkPut(t, made(t, w, anAgg(w)), rec(strings.Repeat("\u00e4", 9), 12, 5), nil, api.ErrArg)
	}
}

func TestKeysThatAreAlike(t *testing.T) { // P11.2: each has panes of its own
	for _, w := range windows[1:] {
		k := made(t, w, api.AggCount)
		s, _ := newSecond(w, api.AggCount)
		for _, name := range []string{"", "a", "A", "a\x00", "\x00a", "aa", key(15), key(16), "\xe4", "\xc3\xa4"} {
			for i := range 1 + len(name) {
				put(t, k, rec(name, i%2, i))
				s.put(rec(name, i%2, i))
			}
		}
		checkSame(t, k, s)
	}
}

func TestPutTimes(t *testing.T) { // P11.2: at and around each limit and the mark
	for _, w := range windows {
		for _, at := range []int{0, 1, 2, 12, maxTime - 1, maxTime, forever} {
			for _, time := range slices.Concat([]int{-2, -1, 0, 1, at - 2, at - 1, at, at + 1, maxTime - 1, maxTime, forever, forever + 1, -maxTime}, ends) {
				k := made(t, w, anAgg(w))
				s, _ := newSecond(w, anAgg(w))
				checkMark(t, k, at, nil, api.OK)
				s.setMark(at)
				want, e := s.put(rec("a", time, 7))
				checkPut(t, k, rec("a", time, 7), want, e)
				checkAt(t, k, at)
				checkOpen(t, k, s.open()...)
				checkFresh(t, k, at == 0 && e != api.OK)
			}
		}
	}
}

func TestErrorsOfPut(t *testing.T) { // P11.2: ErrArg ahead of ErrLate
	for _, w := range windows {
		k := made(t, w, anAgg(w))
		checkMark(t, k, 50, nil, api.OK)
		checkPut(t, k, rec("a", 49, 1), nil, api.ErrLate)
		checkPut(t, k, rec("a", 0, 1), nil, api.ErrLate)
		checkPut(t, k, rec(key(16), 49, 1), nil, api.ErrLate)
		checkPut(t, k, rec(key(17), 49, 1), nil, api.ErrArg)
		checkPut(t, k, rec(key(17), 50, 1), nil, api.ErrArg)
		checkPut(t, k, rec(key(17), -1, 1), nil, api.ErrArg)
		checkPut(t, k, rec(key(17), forever, 1), nil, api.ErrArg)
		for _, time := range []int{-1, math.MinInt, forever, math.MaxInt} {
			checkPut(t, k, rec("a", time, 1), nil, api.ErrArg)
		}
		checkMark(t, k, forever, nil, api.OK)
		checkPut(t, k, rec("a", maxTime, 1), nil, api.ErrLate)
		checkPut(t, k, rec("a", forever, 1), nil, api.ErrArg)
		checkPut(t, k, rec("a", -1, 1), nil, api.ErrArg)
		checkOpen(t, k)
	}
}

// wrongPuts are records that a keep with the mark 50 does not take.
var wrongPuts = []struct {
	r api.Record
	e api.Errno
}{
	{rec("a", 49, 1), api.ErrLate}, {rec("b", 0, 1), api.ErrLate}, {rec("a", -1, 1), api.ErrArg}, {rec("a", forever, 1), api.ErrArg},
	{rec(key(17), 60, 1), api.ErrArg}, {rec("a", math.MinInt, 1), api.ErrArg}, {rec("a", math.MaxInt, 1), api.ErrArg},
}

func TestPutAfterAnError(t *testing.T) { // P11.2, R1: the keep is as before
	for _, w := range windows {
		k := made(t, w, anAgg(w))
		s, _ := newSecond(w, anAgg(w))
		want, _ := s.setMark(50)
		checkMark(t, k, 50, want, api.OK)
		for _, time := range []int{50, 55, 61, 55} {
			l, _ := s.put(rec("a", time, time))
			checkPut(t, k, rec("a", time, time), l, api.OK)
		}
		for _, x := range wrongPuts {
			checkPut(t, k, x.r, nil, x.e)
			checkSame(t, k, s)
		}
		want, _ = s.setMark(forever)
		checkMark(t, k, forever, want, api.OK)
		checkOpen(t, k)
	}
}

func TestFresh(t *testing.T) { // P11.1, P11.2, P11.3, R1: until a call changes something
	for _, w := range windows {
		for i, x := range []struct {
			do    func(k *keep.Keep)
			fresh bool
		}{
			{func(k *keep.Keep) {}, true},
			{func(k *keep.Keep) { k.Put(rec(key(17), 1, 1)) }, true},
			{func(k *keep.Keep) { k.Put(rec("a", -1, 1)) }, true},
			{func(k *keep.Keep) { k.Put(rec("a", forever, 1)) }, true},
			{func(k *keep.Keep) { k.Put(rec("a", 0, 0)) }, false},
			{func(k *keep.Keep) { k.Put(rec("", maxTime, 0)) }, false},
			{func(k *keep.Keep) { k.Mark(-1) }, true},
			{func(k *keep.Keep) { k.Mark(0) }, true},
			{func(k *keep.Keep) { k.Mark(forever + 1) }, true},
			{func(k *keep.Keep) { k.Mark(1) }, false},
			{func(k *keep.Keep) { k.Mark(forever) }, false},
			{func(k *keep.Keep) { k.Mark(1); k.Mark(0); k.Mark(1) }, false},
			{func(k *keep.Keep) { k.At(); k.Open(); k.Save(0); k.Save(-1); k.Save(16) }, true},
			{func(k *keep.Keep) { k.Load(nil); k.Load([]byte{0}); k.Load(encode(16, 5)) }, true},
			{func(k *keep.Keep) { k.Load(encode(15, 0)) }, false},
			{func(k *keep.Keep) { k.Load(encode(15, 7)) }, false},
		} {
			k := made(t, w, anAgg(w))
			x.do(k)
			checkFresh(t, k, x.fresh)
			if t.Failed() {
				t.Fatalf("%v, row %d", w, i)
			}
		}
	}
}

func TestPutWithoutWindows(t *testing.T) { // P11.2: the record is returned as it is, and nothing is held
	k := made(t, none(), 0)
	for _, r := range recs(rec("a", 4, 2), rec("", 0, 0), rec("a", 4, 2), rec(key(16), maxTime, math.MinInt), rec("\xff", 3, math.MaxInt)) {
		checkPut(t, k, r, recs(r), api.OK)
		checkOpen(t, k)
		checkAt(t, k, 0)
	}
	checkMark(t, k, 5, nil, api.OK)
	checkPut(t, k, rec("a", 4, 2), nil, api.ErrLate)
	checkPut(t, k, rec("a", 5, 2), recs(rec("a", 5, 2)), api.OK)
	for g := range nGroups {
		checkSave(t, k, g, encode(g, 5), api.OK)
	}
	checkMark(t, k, forever, nil, api.OK)
}

func TestPutOfEachKind(t *testing.T) { // P11.2: worked out by hand
	for _, x := range []struct {
		w    api.Window
		want []api.Pane
	}{
		{tumble(10), []api.Pane{pane("a", 0, 10, 5, -3), pane("a", 10, 20, 4)}},
		{tumble(7), []api.Pane{pane("a", 0, 7, 5), pane("a", 7, 14, -3, 4)}},
		{slide(10, 5), []api.Pane{pane("a", -5, 5, 5), pane("a", 0, 10, 5, -3), pane("a", 5, 15, -3, 4), pane("a", 10, 20, 4)}},
		{slide(10, 4), []api.Pane{pane("a", -4, 6, 5), pane("a", 0, 10, 5, -3), pane("a", 4, 14, -3, 4), pane("a", 8, 18, -3, 4), pane("a", 12, 22, 4)}},
		{slide(10, 10), []api.Pane{pane("a", 0, 10, 5, -3), pane("a", 10, 20, 4)}},
		{session(5), []api.Pane{pane("a", 3, 8, 5), pane("a", 9, 17, -3, 4)}},
		{session(3), []api.Pane{pane("a", 3, 6, 5), pane("a", 9, 12, -3), pane("a", 12, 15, 4)}},
		{session(7), []api.Pane{pane("a", 3, 19, 5, -3, 4)}},
	} {
		k := made(t, x.w, api.AggSum)
		put(t, k, rec("a", 3, 5), rec("a", 9, -3), rec("a", 12, 4))
		checkOpen(t, k, x.want...)
		k = made(t, x.w, api.AggSum)
		put(t, k, rec("a", 12, 4), rec("a", 9, -3), rec("a", 3, 5))
		checkOpen(t, k, x.want...)
	}
}

func TestPutAtTheEndsOfTime(t *testing.T) { // P11.2: times 0 and 1000000000
	for _, w := range windows[1:] {
		k := made(t, w, api.AggMax)
		s, _ := newSecond(w, api.AggMax)
		for _, r := range recs(rec("a", maxTime, 1), rec("a", 0, 2), rec("a", maxTime-1, 3), rec("a", 1, 4), rec("b", maxTime, 5), rec("a", maxTime, 6), rec("a", 0, 7)) {
			put(t, k, r)
			s.put(r)
			checkOpen(t, k, s.open()...)
		}
	}
}

func TestValuesWrapAround(t *testing.T) { // P11.2: as sums do
	for _, w := range windows[1:] {
		for _, values := range [][]int{{math.MaxInt, 1}, {math.MinInt, -1}, {math.MinInt, math.MinInt}, {math.MaxInt, math.MaxInt, math.MaxInt}, {1 << 62, 1 << 62, -1 << 62}} {
			for kind := api.AggCount; kind <= api.AggMax; kind++ {
				k := made(t, w, kind)
				s, _ := newSecond(w, kind)
				for _, v := range values {
					put(t, k, rec("a", 16, v))
					s.put(rec("a", 16, v))
				}
				checkSame(t, k, s)
				want, _ := s.setMark(forever)
				checkMark(t, k, forever, want, api.OK)
			}
		}
	}
	k := made(t, tumble(10), api.AggSum)
	put(t, k, rec("a", 3, math.MaxInt), rec("a", 4, 2))
	checkMark(t, k, 10, recs(rec("a", 9, math.MinInt+1)), api.OK)
}
