package window_test

import (
	"math"
	"slices"
	"testing"

	"watershed/api"
	"watershed/window"
)

func none() api.Window {
	return api.Window{Kind: api.WinNone}
}

func tumble(size int) api.Window {
	return api.Window{Kind: api.WinTumble, Size: size}
}

func slide(size, slide int) api.Window {
	return api.Window{Kind: api.WinSlide, Size: size, Slide: slide}
}

func session(gap int) api.Window {
	return api.Window{Kind: api.WinSession, Size: gap}
}

// list returns spans of their ends: From and To in turns.
func list(ends ...int) []api.Span {
	var spans []api.Span
	for i := 0; i < len(ends); i += 2 {
		spans = append(spans, api.Span{From: ends[i], To: ends[i+1]})
	}
	return spans
}

func checkRight(t *testing.T, w api.Window, want bool) {
	t.Helper()
	if got := window.Right(w); got != want {
		t.Errorf("Right(%v) = %v, want %v", w, got, want)
	}
}

func checkOf(t *testing.T, w api.Window, time int, want []api.Span, e api.Errno) {
	t.Helper()
	if got, err := window.Of(w, time); !slices.Equal(got, want) || err != e {
		t.Errorf("Of(%v, %d) = %v, %d, want %v, %d", w, time, got, err, want, e)
	}
}

func checkMerge(t *testing.T, l, want []api.Span, e api.Errno) {
	t.Helper()
	got, err := window.Merge(l)
	if slices.Equal(got, want) && err == e {
		return
	}
	if len(l) > 20 {
		t.Errorf("Merge of %d spans = %d spans, %d, want %d, %d", len(l), len(got), err, len(want), e)
		return
	}
	t.Errorf("Merge(%v) = %v, %d, want %v, %d", l, got, err, want, e)
}

func checkDue(t *testing.T, s api.Span, mark int, want bool) {
	t.Helper()
	if got := window.Due(s, mark); got != want {
		t.Errorf("Due(%v, %d) = %v, want %v", s, mark, got, want)
	}
}

func TestExamples(t *testing.T) { // the chapter's table
	checkOf(t, tumble(10), 25, list(20, 30), api.OK)
	checkOf(t, slide(10, 5), 25, list(20, 30, 25, 35), api.OK)
	checkOf(t, slide(10, 5), 3, list(-5, 5, 0, 10), api.OK)
	checkOf(t, slide(10, 4), 12, list(4, 14, 8, 18, 12, 22), api.OK)
	checkOf(t, session(7), 12, list(12, 19), api.OK)
	checkOf(t, none(), 12, nil, api.OK)
	checkMerge(t, list(5, 9, 1, 3, 8, 12, 3, 4), list(1, 3, 3, 4, 5, 12), api.OK)
	checkMerge(t, list(3, 3), nil, api.ErrArg)
	checkDue(t, api.Span{From: 20, To: 30}, 30, true)
	checkDue(t, api.Span{From: 20, To: 30}, 29, false)
	for _, s := range list(20, 30, -5, 5, 0, 1<<40, 999999999, 1000000009, math.MinInt, math.MaxInt) {
		checkDue(t, s, 1000000001, true)
	}
}

func TestRightOfEachKind(t *testing.T) { // P9.1: from below the first kind to beyond the last one
	for _, kind := range kinds {
		sized := kind == api.WinTumble || kind == api.WinSession
		checkRight(t, api.Window{Kind: kind}, kind == api.WinNone)
		checkRight(t, api.Window{Kind: kind, Size: 1}, sized)
		checkRight(t, api.Window{Kind: kind, Size: maxSize}, sized)
		checkRight(t, api.Window{Kind: kind, Size: 10, Slide: 5}, kind == api.WinSlide)
		checkRight(t, api.Window{Kind: kind, Size: 1, Slide: 1}, kind == api.WinSlide)
		checkRight(t, api.Window{Kind: kind, Slide: 1}, false)
	}
}

func TestRightOfSizes(t *testing.T) { // P9.1: from 1 to 1000000
	for _, size := range []int{math.MinInt, -maxSize, -1, 0, maxSize + 1, math.MaxInt} {
		checkRight(t, tumble(size), false)
		checkRight(t, session(size), false)
		checkRight(t, slide(size, size), false)
		checkRight(t, slide(size, 1), false)
	}
	for _, size := range []int{1, 2, maxSize - 1, maxSize} {
		checkRight(t, tumble(size), true)
		checkRight(t, session(size), true)
		checkRight(t, slide(size, size), true)
	}
}

func TestRightOfSlides(t *testing.T) { // P9.1: from 1 to Size, and Size at most 16 times Slide
	for _, x := range []struct {
		size, least int
	}{{1, 1}, {2, 1}, {15, 1}, {16, 1}, {17, 2}, {31, 2}, {32, 2}, {33, 3}, {160, 10}, {161, 11}, {maxSize - 1, 62500}, {maxSize, 62500}} {
		for _, wrong := range []int{math.MinInt, -x.size, -1, 0, x.least - 1, x.size + 1, maxSize + 1, 1 << 60, math.MaxInt} {
			checkRight(t, slide(x.size, wrong), false)
		}
		for _, right := range []int{x.least, min(x.least+1, x.size), (x.least + x.size) / 2, max(x.size-1, x.least), x.size} {
			checkRight(t, slide(x.size, right), true)
		}
	}
}

func TestRightOfWhatAKindLeavesOut(t *testing.T) { // P9.1: Size and Slide of WinNone, Slide of WinTumble and WinSession
	for _, n := range lengths {
		checkRight(t, api.Window{Kind: api.WinNone, Size: n}, n == 0)
		checkRight(t, api.Window{Kind: api.WinNone, Slide: n}, n == 0)
		checkRight(t, api.Window{Kind: api.WinNone, Size: n, Slide: n}, n == 0)
		for _, size := range []int{1, 10, maxSize} {
			checkRight(t, api.Window{Kind: api.WinTumble, Size: size, Slide: n}, n == 0)
			checkRight(t, api.Window{Kind: api.WinSession, Size: size, Slide: n}, n == 0)
		}
	}
}

func TestRightOfAllNumbers(t *testing.T) { // P9.1, R1: every combination within the limits and out of them
	right := 0
	for _, kind := range kinds {
		for _, size := range lengths {
			for _, step := range lengths {
				w := api.Window{Kind: kind, Size: size, Slide: step}
				checkRight(t, w, secondRight(w))
				if secondRight(w) {
					right++
				}
			}
		}
	}
	if right < 50 {
		t.Errorf("only %d windows are right", right)
	}
}

func TestOfTumble(t *testing.T) { // P9.1: times that are multiples of Size, and their neighbours
	for _, size := range []int{1, 2, 3, 7, 10, 4096, maxSize - 1, maxSize} {
		for _, k := range []int{0, 1, 2, 17, maxTime/size - 1} {
			from := k * size
			checkOf(t, tumble(size), from, list(from, from+size), api.OK)
			checkOf(t, tumble(size), from+size-1, list(from, from+size), api.OK)
			checkOf(t, tumble(size), from+size/2, list(from, from+size), api.OK)
			checkOf(t, tumble(size), from+size, list(from+size, from+2*size), api.OK)
		}
	}
	checkOf(t, tumble(7), maxTime, list(999999994, 1000000001), api.OK)
	checkOf(t, tumble(maxSize), maxTime, list(maxTime, maxTime+maxSize), api.OK)
	checkOf(t, tumble(maxSize), maxTime-1, list(maxTime-maxSize, maxTime), api.OK)
}

func TestOfSession(t *testing.T) { // P9.1: it begins at the time, whatever that is
	for _, gap := range []int{1, 2, 7, maxSize - 1, maxSize} {
		for _, time := range []int{0, 1, 6, 7, 8, maxTime - 1, maxTime} {
			checkOf(t, session(gap), time, list(time, time+gap), api.OK)
		}
	}
}

func TestOfNone(t *testing.T) { // P9.1: no time has a span
	for _, time := range []int{0, 1, 12, maxTime - 1, maxTime} {
		checkOf(t, none(), time, nil, api.OK)
	}
}

func TestOfSlide(t *testing.T) { // P9.1: worked out by hand
	for _, x := range []struct {
		size, slide, time int
		want              []api.Span
	}{
		{10, 5, 0, list(-5, 5, 0, 10)},
		{10, 5, 4, list(-5, 5, 0, 10)},
		{10, 5, 5, list(0, 10, 5, 15)},
		{10, 5, 9, list(0, 10, 5, 15)},
		{10, 5, 10, list(5, 15, 10, 20)},
		{10, 4, 0, list(-8, 2, -4, 6, 0, 10)},
		{10, 4, 1, list(-8, 2, -4, 6, 0, 10)},
		{10, 4, 2, list(-4, 6, 0, 10)},
		{10, 4, 3, list(-4, 6, 0, 10)},
		{10, 4, 4, list(-4, 6, 0, 10, 4, 14)},
		{10, 4, 13, list(4, 14, 8, 18, 12, 22)},
		{10, 4, 14, list(8, 18, 12, 22)},
		{10, 7, 7, list(0, 10, 7, 17)},
		{10, 7, 9, list(0, 10, 7, 17)},
		{10, 7, 10, list(7, 17)},
		{10, 9, 0, list(-9, 1, 0, 10)},
		{10, 9, 1, list(0, 10)},
		{10, 10, 0, list(0, 10)},
		{10, 10, 9, list(0, 10)},
		{10, 10, 10, list(10, 20)},
		{1, 1, 0, list(0, 1)},
		{1, 1, maxTime, list(maxTime, maxTime+1)},
		{maxSize, maxSize, 999999, list(0, maxSize)},
		{maxSize, maxSize - 1, 0, list(1-maxSize, 1, 0, maxSize)},
		{maxSize, maxSize - 1, 1, list(0, maxSize)},
		{maxSize, maxSize - 1, 999999, list(0, maxSize, 999999, 1999999)},
		{16, 1, 3, list(-12, 4, -11, 5, -10, 6, -9, 7, -8, 8, -7, 9, -6, 10, -5, 11, -4, 12, -3, 13, -2, 14, -1, 15, 0, 16, 1, 17, 2, 18, 3, 19)},
	} {
		checkOf(t, slide(x.size, x.slide), x.time, x.want, api.OK)
	}
}

func TestOfTheMostSpans(t *testing.T) { // P9.1: the greatest size with the least slide
	for _, time := range []int{0, 1, 62499, 62500, 62501, 999999, maxSize, maxTime - 1, maxTime} {
		last := time / 62500 * 62500
		var want []api.Span
		for k := 15; k >= 0; k-- {
			want = append(want, api.Span{From: last - k*62500, To: last - k*62500 + maxSize})
		}
		checkOf(t, slide(maxSize, 62500), time, want, api.OK)
	}
}

func TestOfEveryFrom(t *testing.T) { // P9.1: small windows and times, with every From there is
	for size := 1; size <= 34; size++ {
		for step := (size + maxPanes - 1) / maxPanes; step <= size; step++ {
			for time := range 3*size + 2 {
				checkOf(t, slide(size, step), time, everyFrom(size, step, time), api.OK)
			}
		}
		for time := range 3*size + 2 {
			checkOf(t, tumble(size), time, everyFrom(size, size, time), api.OK)
		}
	}
}

// everyFrom goes through all numbers from far below a time to far above it.
func everyFrom(size, step, time int) []api.Span {
	var spans []api.Span
	for from := -40; from <= time+40; from++ {
		if s := (api.Span{From: from, To: from + size}); from%step == 0 && contains(s, time) {
			spans = append(spans, s)
		}
	}
	return spans
}

func TestDueAroundTo(t *testing.T) { // P9.3: a mark one less than To, equal to it, and one more
	for _, s := range list(0, 1, 0, 10, 20, 30, -5, 5, -10, -1, -1, 0, maxTime, maxTime+maxSize, 0, maxTime, 0, math.MaxInt-1, math.MinInt, math.MinInt+2) {
		checkDue(t, s, s.To-1, s.To-1 == forever)
		checkDue(t, s, s.To, true)
		checkDue(t, s, s.To+1, true)
	}
}

func TestDueAtTheFirstMarkAndTheLast(t *testing.T) { // P9.3: 0, and Forever with any span, also an empty one
	for _, from := range times {
		for _, to := range times {
			s := api.Span{From: from, To: to}
			checkDue(t, s, 0, to <= 0)
			checkDue(t, s, forever, true)
			checkDue(t, s, forever-1, to <= maxTime)
			checkDue(t, s, forever+1, to <= maxTime+2) // no mark, but only Forever is greater than every To
		}
	}
}

func TestDueOfAllNumbers(t *testing.T) { // P9.3, R1
	for _, from := range []int{math.MinInt, -1, 0, 25, maxTime, math.MaxInt} {
		for _, to := range times {
			for _, mark := range times {
				s := api.Span{From: from, To: to}
				checkDue(t, s, mark, secondDue(s, mark))
			}
		}
	}
}
