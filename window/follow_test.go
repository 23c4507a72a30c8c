package window_test

import (
	"math"
	"slices"
	"testing"

	"watershed/api"
	"watershed/mark"
	"watershed/window"
)

// counts tells whether there may be n spans of a time.
func counts(w api.Window, n int) bool {
	if w.Kind == api.WinSlide {
		return n == w.Size/w.Slide || n == (w.Size+w.Slide-1)/w.Slide
	}
	return n == 1
}

func TestTimesLieInTheirSpans(t *testing.T) { // P9.4: and how many they are
	s := newSource(7)
	for range 50000 {
		w := s.window()
		time := s.time(w)
		spans, e := window.Of(w, time)
		if e != api.OK || !counts(w, len(spans)) {
			t.Fatalf("Of(%v, %d) = %v, %d: %d spans", w, time, spans, e, len(spans))
		}
		for i, x := range spans {
			if !contains(x, time) || x.To-x.From != w.Size {
				t.Fatalf("Of(%v, %d) = %v: %v is wrong", w, time, spans, x)
			}
			if w.Kind == api.WinSlide && (x.From%w.Slide != 0 || i > 0 && x.From != spans[i-1].From+w.Slide) {
				t.Fatalf("Of(%v, %d) = %v: a span is wrong or missing at %d", w, time, spans, i)
			}
		}
	}
}

func TestSlidesAreRoundedBothWays(t *testing.T) { // P9.4: among the times of one slide, Size / Slide is rounded up for the first Size % Slide
	for size := 1; size <= 40; size++ {
		for step := (size + maxPanes - 1) / maxPanes; step <= size; step++ {
			for time := range 3 * step {
				want := size / step
				if time%step < size%step {
					want++
				}
				if spans, _ := window.Of(slide(size, step), time); len(spans) != want {
					t.Errorf("Of(%v, %d) = %v: want %d spans", slide(size, step), time, spans, want)
				}
			}
		}
	}
}

func TestEveryTimeOfASpanHasIt(t *testing.T) { // P9.4: a span of a time is one of all its times, but with WinSession
	s := newSource(8)
	for range 20000 {
		w := s.window()
		if w.Kind == api.WinSession {
			continue
		}
		spans, _ := window.Of(w, s.time(w))
		for _, x := range spans {
			for _, time := range []int{x.From, x.From + 1, x.From + s.IntN(w.Size), x.To - 1} {
				if time < 0 || time > maxTime || time >= x.To {
					continue
				}
				if l, _ := window.Of(w, time); !slices.Contains(l, x) {
					t.Fatalf("Of(%v, %d) = %v, without %v", w, time, l, x)
				}
			}
		}
	}
}

func TestDueSpansContainLateTimes(t *testing.T) { // P9.4: and spans that are not due have a time that is not late, if records have it
	s := newSource(9)
	due, rest := 0, 0
	for range 50000 {
		w := s.window()
		spans, _ := window.Of(w, s.time(w))
		x := spans[s.IntN(len(spans))]
		at := max(0, min(forever, x.To-2+s.IntN(4)))
		if s.IntN(4) == 0 {
			at = s.IntN(forever + 1)
		}
		last := min(maxTime, x.To-1)
		if !window.Due(x, at) {
			if mark.Late(at, x.To-1) {
				t.Fatalf("Due(%v, %d) is false, and no record may come", x, at)
			}
			rest++
			continue
		}
		for _, time := range []int{x.From, (x.From + last) / 2, last - 1, last} {
			if contains(x, time) && !mark.Late(at, time) {
				t.Fatalf("Due(%v, %d) is true, but the time %d is not late", x, at, time)
			}
		}
		due++
	}
	if due < 10000 || rest < 10000 {
		t.Errorf("only %d spans are due, %d are not", due, rest)
	}
}

// checkOrders holds Merge of every order of the last spans of l to what is wanted.
func checkOrders(t *testing.T, l, want []api.Span, k int) {
	t.Helper()
	if k == len(l) {
		checkMerge(t, l, want, api.OK)
		return
	}
	for i := k; i < len(l); i++ {
		l[k], l[i] = l[i], l[k]
		checkOrders(t, l, want, k+1)
		l[k], l[i] = l[i], l[k]
	}
}

func TestMergeInEveryOrder(t *testing.T) { // P9.5
	s := newSource(10)
	for range 1500 {
		l := s.spans(s.IntN(6))
		want, e := window.Merge(l)
		if e != api.OK {
			t.Fatalf("Merge(%v) returns %d", l, e)
		}
		checkOrders(t, l, want, 0)
		if t.Failed() {
			t.FailNow()
		}
	}
	for _, l := range [][]api.Span{list(1, 3, 3, 5, 2, 4, 0, 9, 5, 6, 9, 10), list(1, 2, 1, 3, 1, 4, 3, 4, 2, 4), list(math.MinInt, 0, 0, math.MaxInt, -1, 1, 5, 6)} {
		want, _ := secondMerge(l)
		checkOrders(t, l, want, 0)
	}
}

func TestMergeOfManyInAnyOrder(t *testing.T) { // P9.5
	s := newSource(11)
	for _, n := range []int{100, 1000, maxSpans} {
		l := s.spans(n)
		want, _ := window.Merge(l)
		checkMerge(t, backwards(l), want, api.OK)
		for range 5 {
			s.Shuffle(n, func(i, k int) { l[i], l[k] = l[k], l[i] })
			checkMerge(t, l, want, api.OK)
		}
	}
}

// mergeOf is Merge of spans that are known to be no more than 4096, none of them empty.
func mergeOf(t *testing.T, l []api.Span) []api.Span {
	t.Helper()
	got, e := window.Merge(l)
	if e != api.OK {
		t.Fatalf("Merge(%v) returns %d", l, e)
	}
	return got
}

func TestMergeOfResults(t *testing.T) { // P9.5: again, together with another span, and with the result of others
	s := newSource(12)
	for range 10000 {
		l, others := s.spans(s.IntN(12)), s.spans(1+s.IntN(5))
		merged := mergeOf(t, l)
		checkMerge(t, merged, merged, api.OK)
		one := mergeOf(t, slices.Concat(l, others[:1]))
		checkMerge(t, slices.Concat(merged, others[:1]), one, api.OK)
		checkMerge(t, slices.Concat(others[:1], merged), one, api.OK)
		all := mergeOf(t, slices.Concat(l, others))
		checkMerge(t, slices.Concat(mergeOf(t, others), merged), all, api.OK)
		for _, x := range others { // as sessions grow: one record after the other
			merged = mergeOf(t, append(merged, x))
		}
		if !slices.Equal(merged, all) {
			t.Errorf("one after the other, %v and %v become %v, want %v", l, others, merged, all)
		}
		if t.Failed() {
			t.FailNow()
		}
	}
}

func TestMergeOfSessions(t *testing.T) { // P9.1, P9.5: times that are less than a gap apart have one session
	s := newSource(13)
	for range 3000 {
		gap := 1 + s.IntN(20)
		var all []api.Span
		var at []int
		for range 1 + s.IntN(10) {
			time := s.IntN(100)
			spans, _ := window.Of(session(gap), time)
			all, at = append(all, spans...), append(at, time)
		}
		slices.Sort(at)
		want := list(at[0], at[0]+gap)
		for i := 1; i < len(at); i++ {
			if at[i]-at[i-1] >= gap {
				want = append(want, api.Span{From: at[i]})
			}
			want[len(want)-1].To = at[i] + gap
		}
		checkMerge(t, all, want, api.OK)
	}
}
