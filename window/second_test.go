package window_test

import (
	"math"
	"math/big"
	"slices"

	"watershed/api"
)

// This file reads the chapter a second time, by other means than the program's, to hold every call against it.

// The limits, in the numbers of the document.
const (
	forever  = 1000000001
	maxTime  = 1000000000
	maxSize  = 1000000
	maxPanes = 16
	maxSpans = 4096
)

// kinds are those of windows, with ints at and around them and far beyond them.
var kinds = []int{-2, -1, 0, 1, 2, 3, 4, 5, 1 << 32, 1<<32 + 1, 1<<32 + 2, 1<<32 + 3, math.MinInt, math.MinInt + 1, math.MaxInt - 1, math.MaxInt}

// lengths are ints at and around the limits of sizes and slides, and far beyond them; also such of which 16 times as much wraps around.
var lengths = []int{
	-maxSize, -17, -16, -1, 0, 1, 2, 3, 5, 15, 16, 17, 31, 32, 33, 160, 161,
	maxSize/maxPanes - 1, maxSize / maxPanes, maxSize/maxPanes + 1, maxSize / 2, maxSize - 1, maxSize, maxSize + 1, maxPanes * maxSize,
	1 << 32, 1<<32 + 1, 1 << 59, 1 << 60, 1<<60 + 1, -1 << 60, 1 << 62, -1 << 62,
	math.MinInt, math.MinInt + 1, math.MaxInt - 1, math.MaxInt,
}

// times are ints at and around the limits of times and marks, and far beyond them.
var times = []int{
	-maxSize, -2, -1, 0, 1, 2, 15, 16, 17, maxSize - 1, maxSize, maxSize + 1, maxTime - maxSize, maxTime - 1, maxTime, forever, forever + 1,
	-maxTime, -forever, 1<<32 + 5, -1 << 32, math.MinInt, math.MinInt + 1, math.MaxInt - 1, math.MaxInt,
}

// within tells whether x is from least to most.
func within(x, least, most int) bool {
	return least <= x && x <= most
}

// secondRight goes through the forms of layer 5 one by one.
func secondRight(w api.Window) bool {
	is := func(kind int) bool { return w.Kind == kind }
	none := is(0) && w.Size == 0 && w.Slide == 0
	tumble := is(1) && within(w.Size, 1, maxSize) && w.Slide == 0
	session := is(3) && within(w.Size, 1, maxSize) && w.Slide == 0
	slide := is(2) && within(w.Size, 1, maxSize) && within(w.Slide, 1, w.Size)
	return none || tumble || session || slide && !product(maxPanes, w.Slide).less(w.Size)
}

// number does not wrap around.
type number struct{ *big.Int }

func product(a, b int) number {
	return number{new(big.Int).Mul(big.NewInt(int64(a)), big.NewInt(int64(b)))}
}

func (n number) less(than int) bool {
	return n.Cmp(big.NewInt(int64(than))) < 0
}

// secondOf tries all spans that begin near the time, and takes those in which it lies.
func secondOf(w api.Window, t int) ([]api.Span, api.Errno) {
	if !secondRight(w) || !within(t, 0, maxTime) {
		return nil, api.ErrArg
	}
	switch w.Kind {
	case 0:
		return nil, api.OK
	case 3:
		return []api.Span{{From: t, To: t + w.Size}}, api.OK
	}
	step := w.Slide
	if w.Kind == 1 {
		step = w.Size
	}
	var spans []api.Span
	for k := -20; k <= 20; k++ {
		from := (t/step + k) * step
		if s := (api.Span{From: from, To: from + w.Size}); contains(s, t) {
			spans = append(spans, s)
		}
	}
	return spans, api.OK
}

func contains(s api.Span, t int) bool {
	return within(t, s.From, s.To-1)
}

// secondMerge joins any two spans that have a time in common, until there are none.
func secondMerge(l []api.Span) ([]api.Span, api.Errno) {
	if e := secondErrno(l); e != api.OK {
		return nil, e
	}
	spans := slices.Clone(l)
	for joinTwo(&spans) {
	}
	slices.SortFunc(spans, func(a, b api.Span) int {
		if a.From < b.From {
			return -1
		}
		return 1
	})
	return spans, api.OK
}

func secondErrno(l []api.Span) api.Errno {
	if len(l) >= maxSpans+1 {
		return api.ErrMany
	}
	for _, s := range l {
		if s.To <= s.From {
			return api.ErrArg
		}
	}
	return api.OK
}

// joinTwo replaces the first two spans that have a time in common, and tells whether there were any.
func joinTwo(spans *[]api.Span) bool {
	l := *spans
	for i := range l {
		for k := i + 1; k < len(l); k++ {
			if l[i].From < l[k].To && l[k].From < l[i].To {
				l[i] = api.Span{From: min(l[i].From, l[k].From), To: max(l[i].To, l[k].To)}
				*spans = slices.Delete(l, k, k+1)
				return true
			}
		}
	}
	return false
}

// borderMerge is a third reading, for many spans: the result is parted at the ends of spans that lie in the inside of none.
func borderMerge(l []api.Span) []api.Span {
	var froms, tos []int
	for _, s := range l {
		if !isInside(l, s.From) {
			froms = append(froms, s.From)
		}
		if !isInside(l, s.To) {
			tos = append(tos, s.To)
		}
	}
	slices.Sort(froms)
	slices.Sort(tos)
	froms, tos = slices.Compact(froms), slices.Compact(tos)
	var spans []api.Span
	for i := range froms {
		spans = append(spans, api.Span{From: froms[i], To: tos[i]})
	}
	return spans
}

// isInside tells whether one of the spans contains the time x, and also the one before it.
func isInside(l []api.Span, x int) bool {
	return slices.ContainsFunc(l, func(s api.Span) bool { return s.From < x && x < s.To })
}

// secondDue compares numbers that do not wrap around.
func secondDue(s api.Span, mark int) bool {
	left := new(big.Int).Sub(big.NewInt(int64(s.To)), big.NewInt(int64(mark)))
	return mark == forever || left.Sign() <= 0
}
