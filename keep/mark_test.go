package keep_test

import (
	"math"
	"slices"
	"testing"

	"watershed/api"
)

func TestMarkNumbers(t *testing.T) { // P11.3: at and around each limit and the mark
	numbers := slices.Concat([]int{-2, -1, 0, 1, 12, maxTime - 1, maxTime, forever, forever + 1, forever + 2, -forever}, ends)
	for _, w := range windows {
		for _, before := range []int{0, 1, 12, maxTime, forever} {
			for _, at := range slices.Concat(numbers, []int{before - 1, before, before + 1}) {
				k := made(t, w, anAgg(w))
				s, _ := newSecond(w, anAgg(w))
				s.setMark(before)
				checkMark(t, k, before, nil, api.OK)
				for _, time := range []int{before, before + 5, maxTime} {
					want, e := s.put(rec("a", time, 3))
					checkPut(t, k, rec("a", time, 3), want, e)
				}
				want, e := s.setMark(at)
				checkMark(t, k, at, want, e)
				checkSame(t, k, s)
			}
		}
	}
}

func TestErrorsOfMark(t *testing.T) { // P11.3, R1: the keep is as before
	for _, w := range windows {
		k := made(t, w, anAgg(w))
		s, _ := newSecond(w, anAgg(w))
		for _, at := range slices.Concat([]int{-1, -2, forever + 1, forever + 2}, ends) {
			checkMark(t, k, at, nil, api.ErrArg)
		}
		checkSame(t, k, s)
		for _, at := range []int{0, 7} {
			s.setMark(at)
			checkMark(t, k, at, nil, api.OK)
			want, _ := s.put(rec("a", 9, 3))
			checkPut(t, k, rec("a", 9, 3), want, api.OK)
			for _, wrong := range slices.Concat([]int{-1, forever + 1}, ends) {
				checkMark(t, k, wrong, nil, api.ErrArg)
			}
			for lower := range at + 1 { // no error, but nothing is changed either
				checkMark(t, k, lower, nil, api.OK)
			}
			checkSame(t, k, s)
		}
	}
}

func TestMarkAroundTo(t *testing.T) { // P11.3: one less than To, and To
	for _, x := range []struct {
		w    api.Window
		want []api.Record // of the record "a" at 12, of 3
	}{
		{tumble(10), recs(rec("a", 19, 3))},
		{tumble(1), recs(rec("a", 12, 3))},
		{tumble(maxSize), recs(rec("a", maxSize-1, 3))},
		{slide(10, 5), recs(rec("a", 14, 3), rec("a", 19, 3))},
		{slide(10, 4), recs(rec("a", 13, 3), rec("a", 17, 3), rec("a", 21, 3))},
		{session(5), recs(rec("a", 16, 3))},
		{session(1), recs(rec("a", 12, 3))},
	} {
		k := made(t, x.w, api.AggSum)
		put(t, k, rec("a", 12, 3))
		for _, r := range x.want {
			to := r.Time + 1
			checkMark(t, k, to-1, nil, api.OK)
			checkMark(t, k, to, recs(r), api.OK)
			checkMark(t, k, to, nil, api.OK)
			checkAt(t, k, to)
		}
		checkOpen(t, k)
		checkMark(t, k, forever, nil, api.OK)
	}
}

func TestMarkMakesSomeDue(t *testing.T) { // P11.3: none, one, several, all
	k := made(t, tumble(10), api.AggSum)
	put(t, k, rec("a", 3, 1), rec("b", 4, 2), rec("a", 13, 3), rec("b", 14, 4), rec("c", 15, 5), rec("a", 23, 6), rec("c", 40, 7))
	checkMark(t, k, 9, nil, api.OK)
	checkMark(t, k, 12, recs(rec("a", 9, 1), rec("b", 9, 2)), api.OK)
	checkOpen(t, k, pane("a", 10, 20, 3), pane("a", 20, 30, 6), pane("b", 10, 20, 4), pane("c", 10, 20, 5), pane("c", 40, 50, 7))
	checkMark(t, k, 30, recs(rec("a", 19, 3), rec("b", 19, 4), rec("c", 19, 5), rec("a", 29, 6)), api.OK)
	checkOpen(t, k, pane("c", 40, 50, 7))
	put(t, k, rec("b", 30, 8))
	checkMark(t, k, 49, recs(rec("b", 39, 8)), api.OK)
	checkMark(t, k, 50, recs(rec("c", 49, 7)), api.OK)
	checkOpen(t, k)
	put(t, k, rec("a", 50, 9))
	checkMark(t, k, 1000, recs(rec("a", 59, 9)), api.OK)
}

func TestOrderOfResults(t *testing.T) { // P11.3: by To, then by Key, byte by byte
	k := made(t, tumble(10), api.AggSum)
	for i, key := range []string{"b", "\xff", "", "a", "aa", "A", "\x00", "\x80"} {
		put(t, k, rec(key, 25, i), rec(key, 5, 10+i), rec(key, 15, 20+i))
	}
	checkMark(t, k, 20, recs(
		rec("", 9, 12), rec("\x00", 9, 16), rec("A", 9, 15), rec("a", 9, 13), rec("aa", 9, 14), rec("b", 9, 10), rec("\x80", 9, 17), rec("\xff", 9, 11),
		rec("", 19, 22), rec("\x00", 19, 26), rec("A", 19, 25), rec("a", 19, 23), rec("aa", 19, 24), rec("b", 19, 20), rec("\x80", 19, 27), rec("\xff", 19, 21)), api.OK)
	checkMark(t, k, 30, recs(
		rec("", 29, 2), rec("\x00", 29, 6), rec("A", 29, 5), rec("a", 29, 3), rec("aa", 29, 4), rec("b", 29, 0), rec("\x80", 29, 7), rec("\xff", 29, 1)), api.OK)
}

func TestOrderOfSessions(t *testing.T) { // P11.3: a session that begins earlier may be over later, and another key may be over at the same time
	k := made(t, session(5), api.AggSum)
	put(t, k, rec("a", 1, 1), rec("a", 5, 2), rec("a", 9, 3), rec("b", 2, 4), rec("c", 9, 5), rec("b", 9, 6), rec("d", 6, 7), rec("", 3, 8))
	checkMark(t, k, 14, recs(rec("b", 6, 4), rec("", 7, 8), rec("d", 10, 7), rec("a", 13, 6), rec("b", 13, 6), rec("c", 13, 5)), api.OK)
}

func TestOrderOfLoadedSessions(t *testing.T) { // P11.3: one To with several Froms, of several keys; one key never has the same To twice
	k := made(t, session(5), api.AggSum)
	checkLoad(t, k, encode(12, 0, pane("a", 0, 30, 1), pane("a", 30, 35, 2), pane("a", 35, 50, 3)), api.OK)
	checkLoad(t, k, encode(5, 0, pane("", 40, 50, 4), pane("b", 2, 35, 5), pane("b", 36, 50, 6)), api.OK)
	checkMark(t, k, forever, recs(rec("a", 29, 1), rec("a", 34, 2), rec("b", 34, 5), rec("", 49, 4), rec("a", 49, 3), rec("b", 49, 6)), api.OK)
}

func TestOrderBeyondTheGreatestTime(t *testing.T) { // P11.3: the Time is the same, but To is not
	k := made(t, session(100), api.AggSum)
	put(t, k, rec("c", maxTime-99, 1), rec("b", maxTime-98, 2), rec("a", maxTime-97, 3), rec("d", maxTime-100, 4), rec("0", maxTime, 5), rec("e", maxTime-99, 6))
	checkMark(t, k, maxTime, recs(rec("d", maxTime-1, 4)), api.OK)
	checkMark(t, k, forever, recs(rec("c", maxTime, 1), rec("e", maxTime, 6), rec("b", maxTime, 2), rec("a", maxTime, 3), rec("0", maxTime, 5)), api.OK)
	k = made(t, slide(10, 5), api.AggSum)
	put(t, k, rec("b", maxTime-1, 1), rec("a", maxTime, 2), rec("b", maxTime, 3))
	checkMark(t, k, forever, recs(rec("b", maxTime-1, 1), rec("a", maxTime, 2), rec("b", maxTime, 4), rec("a", maxTime, 2), rec("b", maxTime, 3)), api.OK)
}

func TestTimesOfResults(t *testing.T) { // P11.3: To - 1, at most 1000000000
	for _, x := range []struct {
		w          api.Window
		time, want int
	}{
		{tumble(10), 0, 9},
		{tumble(10), maxTime - 1, maxTime - 1},
		{tumble(10), maxTime, maxTime},
		{tumble(7), maxTime, maxTime}, // to 1000000001
		{tumble(maxSize), maxTime, maxTime},
		{session(1), maxTime, maxTime},
		{session(1), maxTime - 1, maxTime - 1},
		{session(2), maxTime - 1, maxTime},
		{session(3), maxTime - 1, maxTime},
		{session(maxSize), maxTime, maxTime},
		{session(maxSize), maxTime - maxSize, maxTime - 1},
		{session(maxSize), maxTime - maxSize + 1, maxTime},
		{slide(1, 1), maxTime, maxTime},
		{slide(maxSize, maxSize), maxTime, maxTime},
	} {
		k := made(t, x.w, api.AggSum)
		put(t, k, rec("a", x.time, 3))
		checkMark(t, k, forever, recs(rec("a", x.want, 3)), api.OK)
	}
	k := made(t, slide(10, 9), api.AggSum) // its first span ends behind the time 0
	put(t, k, rec("a", 0, 3))
	checkMark(t, k, 1, recs(rec("a", 0, 3)), api.OK)
}

func TestMarksAtTheEnd(t *testing.T) { // P11.3: 1000000000 is not Forever
	for _, x := range []struct {
		w    api.Window
		time int
	}{{tumble(10), maxTime}, {tumble(7), maxTime}, {slide(1, 1), maxTime}, {session(1), maxTime}, {session(5), maxTime - 4}, {session(maxSize), maxTime}} {
		k := made(t, x.w, api.AggSum)
		put(t, k, rec("a", x.time, 3))
		checkMark(t, k, maxTime, nil, api.OK)
		checkMark(t, k, forever, recs(rec("a", maxTime, 3)), api.OK)
		checkMark(t, k, forever, nil, api.OK)
		checkMark(t, k, maxTime, nil, api.OK)
		checkAt(t, k, forever)
		checkOpen(t, k)
	}
}

func TestEachAggregate(t *testing.T) { // P11.3: of the same values
	values := []int{5, -2, 9, -7, 9, 0}
	for _, w := range windows[1:] {
		for kind, want := range []int{0, 6, 14, -7, 9} {
			if kind == 0 {
				continue
			}
			k := made(t, w, kind)
			for _, v := range values {
				put(t, k, rec("a", 12, v))
			}
			l, e := k.Mark(forever)
			if e != api.OK || len(l) != len(secondSpans(w, 12)) {
				t.Errorf("%v: Mark returns %v, %d", w, l, e)
			}
			for _, r := range l {
				if r.Value != want {
					t.Errorf("%v, aggregate %d: %v, want %d", w, kind, r, want)
				}
			}
		}
	}
}

func TestAggregatesOfExtremes(t *testing.T) { // P11.3: whatever the values are
	for kind, want := range []int{0, 1, math.MinInt, math.MinInt, math.MinInt} {
		if kind > 0 {
			k := made(t, tumble(10), kind)
			put(t, k, rec("a", 3, math.MinInt))
			checkMark(t, k, 10, recs(rec("a", 9, want)), api.OK)
		}
	}
	for kind, want := range []int{0, 2, -1, math.MinInt, math.MaxInt} {
		if kind > 0 {
			k := made(t, tumble(10), kind)
			put(t, k, rec("a", 3, math.MinInt), rec("a", 3, math.MaxInt))
			checkMark(t, k, 10, recs(rec("a", 9, want)), api.OK)
		}
	}
}

func TestMarksWithoutWindows(t *testing.T) { // P11.3: nothing is ever due
	k := made(t, none(), 0)
	checkPut(t, k, rec("a", 3, 1), recs(rec("a", 3, 1)), api.OK)
	for _, at := range []int{0, 1, 4, 4, 3, maxTime, forever} {
		checkMark(t, k, at, nil, api.OK)
	}
	checkAt(t, k, forever)
}

func TestPanesComeAgain(t *testing.T) { // P11.3: a key whose panes are gone gets new ones
	for _, w := range windows[1:] {
		k := made(t, w, api.AggSum)
		s, _ := newSecond(w, api.AggSum)
		for at := 0; at < 10*w.Size; at += w.Size {
			for i := range 4 {
				put(t, k, rec("a", at+i*w.Size, i))
				s.put(rec("a", at+i*w.Size, i))
			}
			want, _ := s.setMark(at + w.Size)
			checkMark(t, k, at+w.Size, want, api.OK)
			checkOpen(t, k, s.open()...)
		}
		want, _ := s.setMark(forever)
		checkMark(t, k, forever, want, api.OK)
		checkOpen(t, k)
	}
}
