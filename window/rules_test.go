package window_test

import (
	"math"
	"math/rand/v2"
	"slices"
	"testing"

	"watershed/api"
	"watershed/window"
)

// source gives arbitrary arguments.
type source struct{ *rand.Rand }

func newSource(n uint64) source {
	return source{rand.New(rand.NewPCG(9, n))}
}

// window is one that is right, of any kind but WinNone, with sizes of all orders.
func (s source) window() api.Window {
	size := 1 + s.IntN(maxSize)>>s.IntN(20)
	switch s.IntN(4) {
	case 0:
		return tumble(size)
	case 1:
		return session(size)
	}
	least := (size + maxPanes - 1) / maxPanes
	switch s.IntN(4) {
	case 0:
		return slide(size, least)
	case 1: // a multiple
		step := 1 + s.IntN(maxSize/maxPanes)>>s.IntN(16)
		return slide(step*(1+s.IntN(maxPanes)), step)
	}
	return slide(size, least+s.IntN(size-least+1))
}

// time is near 0, near a multiple of a window's size or slide, near the greatest time, or any.
func (s source) time(w api.Window) int {
	near := 0
	switch s.IntN(6) {
	case 0:
		return s.IntN(maxTime + 1)
	case 1:
		return s.IntN(2 * w.Size)
	case 2:
		near = maxTime
	case 3:
		near = s.IntN(maxTime) / w.Size * w.Size
	case 4:
		step := max(1, w.Slide)
		near = s.IntN(maxTime) / step * step
	}
	return max(0, min(maxTime, near-2+s.IntN(5)))
}

// spans are n that are not empty, some of them near one another, some of all sizes.
func (s source) spans(n int) []api.Span {
	var l []api.Span
	room := 2 + s.IntN(5*n+1)
	for range n {
		from := s.IntN(room) - room/2
		span := api.Span{From: from, To: from + 1 + s.IntN(1+s.IntN(8))}
		switch s.IntN(20) {
		case 0:
			a, b := int(s.Uint64())>>s.IntN(64), int(s.Uint64())>>s.IntN(64)
			if a != b {
				span = api.Span{From: min(a, b), To: max(a, b)}
			}
		case 1:
			if len(l) > 0 {
				span = l[s.IntN(len(l))]
			}
		}
		l = append(l, span)
	}
	return l
}

// wrongWindows are not right; the first ones have one wrong field.
var wrongWindows = []api.Window{
	{Kind: -1}, {Kind: 4}, {Kind: math.MinInt}, {Kind: math.MaxInt}, {Kind: -1, Size: 10}, {Kind: 4, Size: 10}, {Kind: 4, Size: 10, Slide: 5},
	{Kind: 0, Size: 1}, {Kind: 0, Slide: 1}, {Kind: 0, Size: -1}, {Kind: 0, Slide: -1},
	{Kind: 1}, {Kind: 1, Size: -1}, {Kind: 1, Size: maxSize + 1}, {Kind: 1, Size: 10, Slide: 1}, {Kind: 1, Size: 10, Slide: -1}, {Kind: 1, Size: 10, Slide: 10},
	{Kind: 3}, {Kind: 3, Size: -1}, {Kind: 3, Size: maxSize + 1}, {Kind: 3, Size: 10, Slide: 1}, {Kind: 3, Size: 10, Slide: -1}, {Kind: 3, Size: 10, Slide: 10},
	{Kind: 2}, {Kind: 2, Size: 10}, {Kind: 2, Slide: 1}, {Kind: 2, Size: 10, Slide: 11}, {Kind: 2, Size: 10, Slide: -1}, {Kind: 2, Size: 17, Slide: 1}, {Kind: 2, Size: maxSize, Slide: 62499},
	{Kind: 2, Size: maxSize + 1, Slide: maxSize}, {Kind: 2, Size: -10, Slide: -5}, {Kind: 2, Size: math.MaxInt, Slide: math.MaxInt}, {Kind: 2, Size: math.MinInt, Slide: math.MinInt},
	{Kind: math.MaxInt, Size: math.MaxInt, Slide: math.MaxInt}, {Kind: math.MinInt, Size: math.MinInt, Slide: math.MinInt},
}

// rightWindows are of all kinds, with the least and the greatest sizes.
var rightWindows = []api.Window{
	{}, {Kind: 1, Size: 1}, {Kind: 1, Size: 10}, {Kind: 1, Size: maxSize}, {Kind: 3, Size: 1}, {Kind: 3, Size: 10}, {Kind: 3, Size: maxSize},
	{Kind: 2, Size: 1, Slide: 1}, {Kind: 2, Size: 10, Slide: 4}, {Kind: 2, Size: 16, Slide: 1}, {Kind: 2, Size: maxSize, Slide: 62500}, {Kind: 2, Size: maxSize, Slide: maxSize},
}

func TestErrorsOfOf(t *testing.T) { // P9.1, R1: the window alone, the time alone, and both; nothing beside the error
	wrong := []int{math.MinInt, math.MinInt + 1, -forever, -maxTime, -1, forever, forever + 1, 1 << 31, 1 << 32, 1<<32 + 5, math.MaxInt - 1, math.MaxInt}
	right := []int{0, 1, 12, maxTime - 1, maxTime}
	for _, w := range wrongWindows {
		checkRight(t, w, false)
		for _, time := range slices.Concat(wrong, right) {
			checkOf(t, w, time, nil, api.ErrArg)
		}
	}
	for _, w := range rightWindows {
		checkRight(t, w, true)
		for _, time := range wrong {
			checkOf(t, w, time, nil, api.ErrArg)
		}
		for _, time := range right {
			if _, e := window.Of(w, time); e != api.OK {
				t.Errorf("Of(%v, %d) returns %d", w, time, e)
			}
		}
	}
}

func TestOfAllNumbers(t *testing.T) { // P9.1, R1: every combination within the limits and out of them
	for _, kind := range kinds {
		for _, size := range lengths {
			for _, step := range lengths {
				for _, time := range times {
					w := api.Window{Kind: kind, Size: size, Slide: step}
					want, e := secondOf(w, time)
					checkOf(t, w, time, want, e)
				}
			}
		}
	}
}

func TestOfArbitraryWindows(t *testing.T) { // P9.1: against the second reading
	s := newSource(4)
	below := 0
	for range 100000 {
		w := s.window()
		time := s.time(w)
		want, e := secondOf(w, time)
		if e != api.OK {
			t.Fatalf("the window %v is wrong", w)
		}
		checkOf(t, w, time, want, api.OK)
		if want[0].From < 0 {
			below++
		}
		if t.Failed() {
			t.FailNow()
		}
	}
	if below < 1000 {
		t.Errorf("only %d times have spans that begin below 0", below)
	}
}

func TestArbitraryNumbers(t *testing.T) { // R1: any ints at all, for each call
	s := newSource(5)
	wild := func() int {
		if s.IntN(3) == 0 {
			return times[s.IntN(len(times))]
		}
		return int(s.Uint64()) >> s.IntN(64)
	}
	for range 200000 {
		w, time, mark := api.Window{Kind: s.IntN(6) - 1, Size: wild(), Slide: wild()}, wild(), wild()
		checkRight(t, w, secondRight(w))
		want, e := secondOf(w, time)
		checkOf(t, w, time, want, e)
		a, b := api.Span{From: wild(), To: wild()}, api.Span{From: wild(), To: wild()}
		checkDue(t, a, mark, secondDue(a, mark))
		want, e = secondMerge([]api.Span{a, b})
		checkMerge(t, []api.Span{a, b}, want, e)
		if t.Failed() {
			t.FailNow()
		}
	}
}

func TestMergeChangesNothing(t *testing.T) { // R2: in the list that is handed in, nor behind it
	behind := api.Span{From: 77, To: 7}
	for _, l := range [][]api.Span{
		list(1, 2, 3, 4, 5, 6), list(5, 6, 3, 4, 1, 2), list(5, 9, 1, 3, 8, 12, 3, 4), list(1, 5, 2, 9), list(2, 9, 1, 5), list(1, 2, 1, 2, 1, 2),
		list(4, 5, 3, 3, 1, 2), backwards(row(maxSpans)), backwards(row(maxSpans + 1)), nil,
	} {
		whole := append(slices.Clone(l), behind, behind, behind)
		before := slices.Clone(whole)
		got, _ := window.Merge(whole[:len(l)])
		if !slices.Equal(whole, before) {
			t.Errorf("Merge(%v) changes its list", l)
		}
		for i := range got {
			got[i] = behind
		}
		_ = append(got, behind, behind)
		if !slices.Equal(whole, before) {
			t.Errorf("what is done to the result of Merge(%v) is done to its list", l)
		}
	}
}

func TestMergeKeepsNothing(t *testing.T) { // R2: of the list that is handed in
	for _, l := range [][]api.Span{list(1, 2), list(1, 2, 3, 4, 5, 6), list(5, 6, 3, 4, 1, 2), list(1, 5, 2, 9, 11, 12), row(maxSpans)} {
		want, _ := secondMerge(l)
		given := slices.Clone(l)
		got, _ := window.Merge(given)
		for i := range given {
			given[i] = api.Span{From: -9, To: 9}
		}
		if !slices.Equal(got, want) {
			t.Errorf("Merge(%v) becomes %v when its list is changed", l, got)
		}
	}
}

func TestResultsAreApart(t *testing.T) { // R2: a result that is changed changes no other one
	w, l := slide(10, 4), list(5, 9, 1, 3, 8, 12, 3, 4)
	spans, merged := list(4, 14, 8, 18, 12, 22), list(1, 3, 3, 4, 5, 12)
	var former [][]api.Span
	for round := range 3 {
		a, _ := window.Of(w, 12)
		b, _ := window.Merge(l)
		if !slices.Equal(a, spans) || !slices.Equal(b, merged) {
			t.Errorf("Of(%v, 12) = %v, Merge(%v) = %v", w, a, l, b)
		}
		again, _ := window.Merge(b)
		for i := range b {
			a[i], b[i] = api.Span{From: 100 * round, To: i}, api.Span{From: 100*round + 50, To: i}
		}
		if !slices.Equal(again, merged) {
			t.Errorf("the result of a second Merge becomes %v", again)
		}
		former = append(former, a, b)
	}
	for i, l := range former {
		for k, s := range l {
			if want := (api.Span{From: 50 * i, To: k}); s != want {
				t.Errorf("span %d of result %d has become %v, want %v", k, i, s, want)
			}
		}
	}
}

func TestCallsDoNotRememberEarlierOnes(t *testing.T) { // R2
	s := newSource(6)
	for range 2000 {
		w, l := s.window(), s.spans(s.IntN(6))
		time := s.time(w)
		a, _ := window.Of(w, time)
		b, _ := window.Merge(l)
		window.Of(wrongWindows[s.IntN(len(wrongWindows))], time)
		window.Of(s.window(), s.IntN(maxTime))
		window.Merge(s.spans(5))
		window.Merge(make([]api.Span, 3))
		checkOf(t, w, time, a, api.OK)
		checkMerge(t, l, b, api.OK)
	}
}
