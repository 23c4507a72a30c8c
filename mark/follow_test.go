package mark_test

import (
	"testing"

	"watershed/api"
	"watershed/mark"
)

// isLateByTimes tells whether an earlier record has a time that is greater by more than bound.
func isLateByTimes(earlier []int, time, bound int) bool {
	for _, x := range earlier {
		if x-time > bound {
			return true
		}
	}
	return false
}

// checkPartition goes through the times of a partition's records, holds each to P8.4, and returns how many were late.
func checkPartition(t *testing.T, bound int, times []int) int {
	t.Helper()
	late, at := 0, 0
	for i, time := range times {
		want := isLateByTimes(times[:i], time, bound)
		if mark.Late(at, time) != want {
			t.Fatalf("bound %d, times %v: late is %v at the mark %d, want %v", bound, times[:i+1], !want, at, want)
		}
		if want {
			late++
		}
		next, e := mark.Next(at, bound, time)
		if e != api.OK || next < at {
			t.Fatalf("bound %d, times %v: the mark %d becomes %d, error %d", bound, times[:i+1], at, next, e)
		}
		at = next
	}
	return late
}

func TestLateRecordsOfSmallTimes(t *testing.T) { // P8.4: all rows of five times up to 5, with all bounds up to 6
	late := 0
	for bound := range 7 {
		for n := range 6 * 6 * 6 * 6 * 6 {
			late += checkPartition(t, bound, []int{n % 6, n / 6 % 6, n / 36 % 6, n / 216 % 6, n / 1296})
		}
	}
	if late == 0 {
		t.Error("no record is late")
	}
}

func TestLateRecordsOfArbitraryTimes(t *testing.T) { // P8.4: times and bounds of all sizes
	s := newSource(3)
	late, rest := 0, 0
	for range 20000 {
		bound := s.IntN(maxBound+1) >> s.IntN(21)
		var times []int
		top := s.IntN(maxTime + 1)
		for range 1 + s.IntN(12) {
			if s.IntN(3) == 0 { // the records drift, and are behind by about the bound
				top = min(maxTime, top+s.IntN(2*bound+2))
			}
			times = append(times, max(0, top-s.IntN(2*bound+4)))
		}
		n := checkPartition(t, bound, times)
		late, rest = late+n, rest+len(times)-n
	}
	if late < 10000 || rest < 10000 {
		t.Errorf("only %d records are late, %d are not", late, rest)
	}
}

func TestLateRecordsAtTheLimits(t *testing.T) { // P8.4: the greatest times and bounds
	for _, x := range []struct {
		bound, first, then int
		late               bool
	}{
		{0, 0, 0, false}, {0, 1, 0, true}, {0, maxTime, maxTime, false}, {0, maxTime, maxTime - 1, true},
		{maxBound, maxBound, 0, false}, {maxBound, maxBound + 1, 0, true},
		{maxBound, maxTime, maxTime - maxBound, false}, {maxBound, maxTime, maxTime - maxBound - 1, true}, {maxBound, maxTime, 0, true},
		{maxBound, 0, maxTime, false}, {0, 0, maxTime, false},
	} {
		want := 0
		if x.late {
			want = 1
		}
		if n := checkPartition(t, x.bound, []int{x.first, x.then}); n != want {
			t.Errorf("bound %d, times %d, %d: %d are late, want %d", x.bound, x.first, x.then, n, want)
		}
	}
}

func TestNoRecordIsLateWithoutMarks(t *testing.T) { // P8.1: with a bound of -1 no record raises the mark
	s := newSource(4)
	at := 0
	for range 1000 {
		time := s.IntN(maxTime + 1)
		checkLate(t, at, time, false)
		checkNext(t, at, -1, time, 0, api.OK)
		at, _ = mark.Next(at, -1, time)
	}
}

func TestLeastNeverDecreases(t *testing.T) { // P8.4: and is raised exactly when it increased
	s := newSource(5)
	raised := 0
	for round := range 4000 {
		n := 1 + round%maxParts
		m := made(t, n)
		for range 10 + s.IntN(50) {
			before := m.Least()
			i, at := s.input(n), s.mark(before)
			least, r, e := m.Raise(i, at)
			after := m.Least()
			if after < before || r != (after > before) || e == api.OK && least != after || e != api.OK && after != before {
				t.Fatalf("Raise(%d, %d) = %d, %v, %d; the least mark was %d, and is %d", i, at, least, r, e, before, after)
			}
			if r {
				raised++
			}
		}
	}
	if raised < 5000 {
		t.Errorf("only %d calls raise the least mark", raised)
	}
}
