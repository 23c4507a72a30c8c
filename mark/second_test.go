package mark_test

import (
	"math"
	"math/big"
	"slices"

	"watershed/api"
)

// This file reads the chapter a second time, by other means than the program's, to hold every call against it.

// The limits, in the numbers of the document.
const (
	forever  = 1000000001
	maxTime  = 1000000000
	maxBound = 1000000
	maxParts = 16
)

// numbers are ints at and around each limit, and far beyond them; also such whose differences wrap around.
var numbers = []int{
	-18, -17, -16, -2, -1, 0, 1, 2, 3, 4, 5, 15, 16, 17, 18,
	maxBound - 2, maxBound - 1, maxBound, maxBound + 1, maxBound + 2,
	maxTime - maxBound - 1, maxTime - maxBound, maxTime - maxBound + 1, maxTime - 2, maxTime - 1, maxTime, forever, forever + 1, forever + 2,
	-maxBound - 1, -maxBound, -maxTime, -forever,
	1<<31 - 1, 1 << 31, 1 << 32, 1<<32 + 1, 1<<32 + 16, 1 << 62, -1 << 31, -1 << 32, 1 - 1<<32, -1 << 62,
	math.MinInt, math.MinInt + 1, math.MaxInt - 1, math.MaxInt,
}

// secondLate compares numbers that do not wrap around.
func secondLate(at, time int) bool {
	difference := new(big.Int).Sub(big.NewInt(int64(at)), big.NewInt(int64(time)))
	return difference.Sign() > 0
}

// within tells whether x is from least to most.
func within(x, least, most int) bool {
	return least <= x && x <= most
}

// secondNext follows P8.1 word by word.
func secondNext(at, bound, time int) (int, api.Errno) {
	switch {
	case !within(at, 0, forever), !within(bound, -1, maxBound), !within(time, 0, maxTime):
		return 0, api.ErrArg
	case bound == -1:
		return at, api.OK
	case time-bound > at:
		return time - bound, api.OK
	}
	return at, api.OK
}

// secondMarks has a list of all that was said of each input.
type secondMarks [][]int

func secondNew(n int) (secondMarks, api.Errno) {
	if !within(n, 1, maxParts) {
		return nil, api.ErrArg
	}
	said := make(secondMarks, n)
	for i := range said {
		said[i] = []int{0}
	}
	return said, api.OK
}

func (s secondMarks) at(i int) (int, api.Errno) {
	if !within(i, 0, len(s)-1) {
		return 0, api.ErrArg
	}
	return slices.Max(s[i]), api.OK
}

func (s secondMarks) least() int {
	var all []int
	for i := range s {
		at, _ := s.at(i)
		all = append(all, at)
	}
	slices.Sort(all)
	return all[0]
}

func (s secondMarks) raise(i, at int) (int, bool, api.Errno) {
	if !within(i, 0, len(s)-1) || !within(at, 0, forever) {
		return 0, false, api.ErrArg
	}
	before := s.least()
	s[i] = append(s[i], at)
	after := s.least()
	return after, after != before, api.OK // it is never less
}
