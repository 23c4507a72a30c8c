package window_test

import (
	"math"
	"slices"
	"testing"

	"watershed/api"
	"watershed/window"
)

func TestMergeOfFewSpans(t *testing.T) { // P9.2: worked out by hand
	for _, x := range []struct{ l, want []api.Span }{
		{nil, nil},
		{list(3, 4), list(3, 4)},
		{list(0, 10), list(0, 10)},
		{list(-7, -3), list(-7, -3)},

		{list(1, 5, 3, 8), list(1, 8)}, // they overlap
		{list(3, 8, 1, 5), list(1, 8)},
		{list(1, 5, 4, 5), list(1, 5)},
		{list(1, 5, 4, 6), list(1, 6)},

		{list(1, 5, 5, 8), list(1, 5, 5, 8)}, // they touch
		{list(5, 8, 1, 5), list(1, 5, 5, 8)},
		{list(5, 6, 4, 5, 3, 4), list(3, 4, 4, 5, 5, 6)},

		{list(1, 5, 6, 8), list(1, 5, 6, 8)}, // they are apart
		{list(6, 8, 1, 5), list(1, 5, 6, 8)},

		{list(1, 9, 3, 5), list(1, 9)}, // one lies in the other
		{list(3, 5, 1, 9), list(1, 9)},
		{list(1, 9, 3, 5, 5, 7, 2, 3), list(1, 9)},
		{list(3, 5, 1, 9, 5, 7), list(1, 9)},
		{list(1, 9, 2, 3, 8, 12, 3, 4), list(1, 12)},

		{list(1, 5, 1, 5), list(1, 5)}, // they are equal
		{list(1, 2, 1, 2, 1, 2), list(1, 2)},
		{list(3, 4, 1, 2, 3, 4, 1, 2), list(1, 2, 3, 4)},

		{list(1, 5, 1, 8), list(1, 8)}, // they have the same From
		{list(1, 8, 1, 5), list(1, 8)},
		{list(1, 5, 1, 8, 1, 2, 8, 9), list(1, 8, 8, 9)},
		{list(1, 8, 1, 5, 5, 6), list(1, 8)},

		{list(1, 8, 4, 8), list(1, 8)}, // they have the same To
		{list(4, 8, 1, 8), list(1, 8)},
		{list(4, 8, 1, 8, 8, 9, 7, 8), list(1, 8, 8, 9)},

		{list(5, 10, 0, 5, 4, 6), list(0, 10)}, // two that touch, and one over both
		{list(0, 5, 5, 10, 0, 10), list(0, 10)},
		{list(0, 5, 5, 10, 5, 6), list(0, 5, 5, 10)},

		{list(0, 1, -1, 0), list(-1, 0, 0, 1)}, // around 0, where an empty span might lie
		{list(-1, 1, 0, 2), list(-1, 2)},
		{list(-5, 5, -3, 0, 0, 3), list(-5, 5)},
		{list(0, 3, -3, 0, -1, 1), list(-3, 3)},
	} {
		checkMerge(t, x.l, x.want, api.OK)
	}
}

func TestMergeOfTheGreatestSpans(t *testing.T) { // P9.2: From and To may be any ints
	const least, greatest = math.MinInt, math.MaxInt
	for _, x := range []struct{ l, want []api.Span }{
		{list(least, greatest), list(least, greatest)},
		{list(least, greatest, least, greatest), list(least, greatest)},
		{list(greatest-1, greatest, least, least+1), list(least, least+1, greatest-1, greatest)},
		{list(0, greatest, least, 0), list(least, 0, 0, greatest)},
		{list(0, greatest, least, 1), list(least, greatest)},
		{list(-1, greatest, least, 0), list(least, greatest)},
		{list(0, 1, least, greatest, -1, 0), list(least, greatest)},
		{list(least+1, greatest, least, least+1), list(least, least+1, least+1, greatest)},
		{list(least+1, greatest, least, least+2), list(least, greatest)},
		{list(greatest-1, greatest, greatest-2, greatest-1), list(greatest-2, greatest-1, greatest-1, greatest)},
		{list(least, -1, 1, greatest), list(least, -1, 1, greatest)},
		{list(1, greatest, least, -1, -1, 1), list(least, -1, -1, 1, 1, greatest)},
		{list(1, greatest, least, -1, -2, 2), list(least, greatest)},
	} {
		checkMerge(t, x.l, x.want, api.OK)
	}
}

func TestMergeOfChains(t *testing.T) { // P9.2: only neighbours overlap, or only touch
	for _, n := range []int{2, 3, 10, 100, maxSpans - 1, maxSpans} {
		var overlapping, touching, separate []api.Span
		for i := range n {
			k := i * 7 % n // in no order, unless n is a multiple of 7
			overlapping = append(overlapping, api.Span{From: 10 * k, To: 10*k + 11})
			touching = append(touching, api.Span{From: 10 * i, To: 10*i + 10})
			separate = append(separate, api.Span{From: 10 * i, To: 10*i + 9})
		}
		if n%7 != 0 {
			checkMerge(t, overlapping, list(0, 10*n+1), api.OK)
		}
		checkMerge(t, touching, touching, api.OK)
		checkMerge(t, backwards(touching), touching, api.OK)
		checkMerge(t, separate, separate, api.OK)
		checkMerge(t, backwards(separate), separate, api.OK)
	}
}

func backwards(l []api.Span) []api.Span {
	l = slices.Clone(l)
	slices.Reverse(l)
	return l
}

// row returns n spans that neither overlap nor touch.
func row(n int) []api.Span {
	var spans []api.Span
	for i := range n {
		spans = append(spans, api.Span{From: 3 * i, To: 3*i + 2})
	}
	return spans
}

func TestMergeOfManySpans(t *testing.T) { // P9.2: 4096 are not too many, 4097 are
	for _, n := range []int{0, 1, 2, maxSpans - 1, maxSpans} {
		checkMerge(t, row(n), row(n), api.OK)
		checkMerge(t, backwards(row(n)), row(n), api.OK)
	}
	for _, n := range []int{maxSpans + 1, maxSpans + 2, 2 * maxSpans, 100000} {
		checkMerge(t, row(n), nil, api.ErrMany)
		checkMerge(t, slices.Repeat(list(1, 2), n), nil, api.ErrMany)
	}
	checkMerge(t, slices.Repeat(list(1, 2), maxSpans), list(1, 2), api.OK)
}

func TestMergeOfEmptySpans(t *testing.T) { // P9.2: one of them is enough, wherever it is
	for _, empty := range list(3, 3, 4, 3, 0, 0, 1, 0, 0, -1, -1, -1, maxTime, 0, math.MaxInt, math.MinInt, math.MinInt, math.MinInt, math.MaxInt, math.MaxInt) {
		for _, n := range []int{1, 2, 3, 5, maxSpans} {
			for _, place := range []int{0, n / 2, n - 1} {
				l := row(n)
				l[place] = empty
				checkMerge(t, l, nil, api.ErrArg)
				checkMerge(t, backwards(l), nil, api.ErrArg)
			}
		}
		checkMerge(t, []api.Span{empty, {From: 1, To: 9}, empty}, nil, api.ErrArg)
		checkMerge(t, []api.Span{{From: math.MinInt, To: math.MaxInt}, empty}, nil, api.ErrArg) // also where all its times are
	}
}

func TestMergeOfTooManyAndEmptySpans(t *testing.T) { // P9.2: ErrMany ahead of ErrArg
	for _, place := range []int{0, maxSpans / 2, maxSpans - 1, maxSpans} {
		l := row(maxSpans + 1)
		l[place] = api.Span{From: 5, To: 5}
		checkMerge(t, l, nil, api.ErrMany)
		l[place] = api.Span{From: 5, To: 4}
		checkMerge(t, l, nil, api.ErrMany)
	}
	checkMerge(t, make([]api.Span, maxSpans+1), nil, api.ErrMany)
	checkMerge(t, make([]api.Span, maxSpans), nil, api.ErrArg)
}

func TestMergeOfAllSmallSpans(t *testing.T) { // P9.2: every row of up to four spans of few times, also empty ones
	spans := []api.Span{{From: 1, To: 1}, {From: 2, To: 1}}
	for from := range 4 {
		for to := from + 1; to <= 4; to++ {
			spans = append(spans, api.Span{From: from - 2, To: to - 2})
		}
	}
	n := len(spans)
	for k := range n * n * n * n {
		l := []api.Span{spans[k%n], spans[k/n%n], spans[k/n/n%n], spans[k/n/n/n]}
		for most := 1; most <= 4; most++ {
			want, e := secondMerge(l[:most])
			checkMerge(t, l[:most], want, e)
		}
		if t.Failed() {
			return
		}
	}
}

func TestMergeOfArbitrarySpans(t *testing.T) { // P9.2: against the second reading, and against the third one
	s := newSource(1)
	parts, refused := 0, 0
	for range 20000 {
		l := s.spans(s.IntN(14))
		if s.IntN(10) == 0 && len(l) > 0 {
			k := s.IntN(len(l))
			l[k].To = l[k].From - s.IntN(2)*s.IntN(5)
		}
		want, e := secondMerge(l)
		checkMerge(t, l, want, e)
		if e == api.OK {
			checkMerge(t, l, borderMerge(l), api.OK)
		} else {
			refused++
		}
		parts += len(want)
		if t.Failed() {
			t.FailNow()
		}
	}
	if parts < 40000 || refused < 1000 {
		t.Errorf("of the arbitrary spans come only %d, and %d lists are refused", parts, refused)
	}
}

func TestMergeOfManyArbitrarySpans(t *testing.T) { // P9.2
	s := newSource(2)
	for _, n := range []int{100, 1000, maxSpans - 1, maxSpans, maxSpans + 1} {
		for _, most := range []int{1, 3, 30} { // times in a span
			var l []api.Span
			for range n {
				from := s.IntN(10*n) - 5*n
				l = append(l, api.Span{From: from, To: from + 1 + s.IntN(most)})
			}
			if n > maxSpans {
				checkMerge(t, l, nil, api.ErrMany)
				continue
			}
			checkMerge(t, l, borderMerge(l), api.OK)
		}
	}
}

func TestMergeByItsWords(t *testing.T) { // P9.2: time by time, and span by span
	s := newSource(3)
	for range 5000 {
		var l []api.Span
		for range s.IntN(9) {
			from := s.IntN(30)
			l = append(l, api.Span{From: from, To: from + 1 + s.IntN(6)})
		}
		got, e := window.Merge(l)
		if e != api.OK {
			t.Fatalf("Merge(%v) returns %d", l, e)
		}
		for time := -1; time <= 40; time++ {
			if holders(got, time) != min(1, holders(l, time)) {
				t.Fatalf("Merge(%v) = %v: the time %d lies in %d given spans and in %d resulting ones", l, got, time, holders(l, time), holders(got, time))
			}
		}
		for _, given := range l {
			if !slices.ContainsFunc(got, func(r api.Span) bool { return r.From <= given.From && given.To <= r.To }) {
				t.Fatalf("Merge(%v) = %v: %v is parted", l, got, given)
			}
		}
		for _, r := range got {
			for x := r.From + 1; x < r.To; x++ {
				if !isInside(l, x) {
					t.Fatalf("Merge(%v) = %v: %v might be parted at %d", l, got, r, x)
				}
			}
		}
		if !slices.IsSortedFunc(got, func(a, b api.Span) int { return a.From - b.From }) {
			t.Fatalf("Merge(%v) = %v", l, got)
		}
	}
}

// holders counts the spans that contain a time.
func holders(l []api.Span, time int) int {
	n := 0
	for _, s := range l {
		if contains(s, time) {
			n++
		}
	}
	return n
}
