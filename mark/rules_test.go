package mark_test

import (
	"math"
	"math/rand/v2"
	"slices"
	"testing"

	"watershed/api"
	"watershed/mark"
)

// noInputs are numbers of no input of any Marks, but for those that are from 1 to 15.
var noInputs = []int{-1, -2, -16, -17, maxParts, maxParts + 1, forever, 1 << 32, -1 << 32, math.MinInt, math.MinInt + 1, math.MaxInt - 1, math.MaxInt}

// noMarks are ints that are no marks.
var noMarks = []int{-1, -2, forever + 1, forever + 2, -forever, 1 << 31, 1<<32 + 5, 5 - 1<<32, math.MinInt, math.MinInt + 1, math.MaxInt - 1, math.MaxInt}

// checkSecond holds marks to the second reading: of every input, and of those around them that do not exist.
func checkSecond(t *testing.T, m *mark.Marks, s secondMarks) {
	t.Helper()
	for i := -2; i <= maxParts+2; i++ {
		at, e := s.at(i)
		checkAt(t, m, i, at, e)
	}
	if got, want := m.Least(), s.least(); got != want {
		t.Errorf("Least() = %d, want %d", got, want)
	}
}

func TestLateOfAllNumbers(t *testing.T) { // P8.1: for any ints
	for _, x := range numbers {
		for _, y := range numbers {
			checkLate(t, x, y, secondLate(x, y))
		}
		checkLate(t, x, x, false)
		if x != math.MaxInt {
			checkLate(t, x, x+1, false)
			checkLate(t, x+1, x, true)
		}
	}
	checkLate(t, math.MaxInt, math.MinInt, true)
	checkLate(t, math.MinInt, math.MaxInt, false)
}

func TestErrorsOfNext(t *testing.T) { // P8.1: each argument alone
	for _, wrong := range noMarks {
		checkNext(t, wrong, 3, 10, 0, api.ErrArg)
		checkNext(t, wrong, -1, 10, 0, api.ErrArg)
	}
	for _, wrong := range []int{-2, -3, maxBound + 1, maxBound + 2, forever, math.MinInt, math.MaxInt} {
		checkNext(t, 7, wrong, 10, 0, api.ErrArg)
	}
	for _, wrong := range []int{-1, -2, forever, forever + 1, math.MinInt, math.MaxInt} {
		checkNext(t, 7, 3, wrong, 0, api.ErrArg)
		checkNext(t, 7, -1, wrong, 0, api.ErrArg) // also where the time makes no difference
	}
}

func TestNextOfAllNumbers(t *testing.T) { // P8.1, R1: every combination within the limits and out of them
	for _, x := range numbers {
		for _, y := range numbers {
			for _, z := range numbers {
				want, e := secondNext(x, y, z)
				checkNext(t, x, y, z, want, e)
			}
		}
	}
}

func TestErrorsOfNew(t *testing.T) { // P8.2: no Marks beside the error
	for _, n := range append([]int{0}, noInputs...) {
		if n == maxParts {
			continue
		}
		if m, e := mark.New(n); m != nil || e != api.ErrArg {
			t.Errorf("New(%d) = %v, %d, want none, %d", n, m, e, api.ErrArg)
		}
	}
}

func TestNewOfAllNumbers(t *testing.T) { // P8.2, R1
	for _, n := range slices.Concat([]int{6, 7, 8, 9, 10, 11, 12, 13, 14}, numbers) {
		s, e := secondNew(n)
		m, err := mark.New(n)
		if err != e || (m == nil) != (e != api.OK) {
			t.Errorf("New(%d) = %v, %d, want %d", n, m, err, e)
		}
		if m != nil && s != nil {
			checkSecond(t, m, s)
		}
	}
}

func TestErrorsOfRaise(t *testing.T) { // P8.2, R1: each argument alone and both; nothing is changed
	for n := 1; n <= maxParts; n++ {
		m, _ := mark.New(n)
		s, _ := secondNew(n)
		for i := range n {
			m.Raise(i, 40-i)
			s.raise(i, 40-i)
		}
		for _, i := range append([]int{n}, noInputs...) {
			checkAt(t, m, i, 0, api.ErrArg)
			for _, at := range append([]int{0, 1, 100, maxTime, forever}, noMarks...) {
				checkRaise(t, m, i, at, 0, false, api.ErrArg)
			}
			checkSecond(t, m, s)
		}
		for _, at := range noMarks {
			for i := range n {
				checkRaise(t, m, i, at, 0, false, api.ErrArg)
			}
			checkSecond(t, m, s)
		}
	}
}

func TestRaiseAfterAnError(t *testing.T) { // R1: a call that returned an error makes no difference to the next ones
	m := made(t, 2)
	checkRaise(t, m, 0, 5, 0, false, api.OK)
	checkRaise(t, m, 1, forever+1, 0, false, api.ErrArg)
	checkRaise(t, m, 2, 9, 0, false, api.ErrArg)
	checkRaise(t, m, 1, -1, 0, false, api.ErrArg)
	checkRaise(t, m, 1, 4, 4, true, api.OK)
	checkRaise(t, m, -1, forever, 0, false, api.ErrArg)
	checkRaise(t, m, 1, 4, 4, false, api.OK)
	checkRaise(t, m, 1, 6, 5, true, api.OK)
	checkMarks(t, m, 5, 6)
}

// source gives arbitrary arguments.
type source struct{ *rand.Rand }

func newSource(n uint64) source {
	return source{rand.New(rand.NewPCG(8, n))}
}

// input is mostly one of n inputs.
func (s source) input(n int) int {
	switch s.IntN(12) {
	case 0:
		return n
	case 1:
		return noInputs[s.IntN(len(noInputs))]
	}
	return s.IntN(n)
}

// mark is mostly little more than near, but also anything else.
func (s source) mark(near int) int {
	switch s.IntN(60) {
	case 0, 1:
		return noMarks[s.IntN(len(noMarks))]
	case 2, 3:
		return s.IntN(forever + 1)
	case 4:
		return forever - s.IntN(3)
	case 5:
		return int(s.Uint64()) >> s.IntN(64)
	}
	return max(0, near-2+s.IntN(5))
}

func TestArbitraryCalls(t *testing.T) { // P8.2, R1: rows of calls on 1 to 16 inputs, against the second reading
	s := newSource(1)
	raised, refused := 0, 0
	for round := range 4000 {
		n := 1 + round%maxParts
		m := made(t, n)
		second, _ := secondNew(n)
		for range 10 + s.IntN(60) {
			i := s.input(n)
			at := s.mark(second.least())
			least, r, e := second.raise(i, at)
			checkRaise(t, m, i, at, least, r, e)
			if r {
				raised++
			}
			if e != api.OK {
				refused++
			}
			if i, near := s.input(n), m.Least(); s.IntN(4) == 0 {
				at, e := second.at(i)
				checkAt(t, m, i, at, e)
				if near != second.least() {
					t.Errorf("Least() = %d, want %d", near, second.least())
				}
			}
		}
		checkSecond(t, m, second)
		if t.Failed() {
			t.FailNow()
		}
	}
	if raised < 5000 || refused < 5000 {
		t.Errorf("of the arbitrary calls only %d raise the least mark, and %d are refused", raised, refused)
	}
}

func TestMarksAreApart(t *testing.T) { // R2: calls on one change nothing in the others
	s := newSource(2)
	for range 300 {
		var all []*mark.Marks
		var seconds []secondMarks
		for range 2 + s.IntN(3) {
			n := 1 + s.IntN(maxParts)
			second, _ := secondNew(n)
			all, seconds = append(all, made(t, n)), append(seconds, second)
		}
		for range 60 {
			k := s.IntN(len(all))
			i, at := s.input(len(seconds[k])), s.mark(seconds[k].least())
			least, r, e := seconds[k].raise(i, at)
			checkRaise(t, all[k], i, at, least, r, e)
			for k := range all {
				checkSecond(t, all[k], seconds[k])
			}
		}
		if t.Failed() {
			t.FailNow()
		}
	}
}

func TestAskingChangesNothing(t *testing.T) { // R2: Least and At, however often
	m := made(t, 3)
	checkRaise(t, m, 0, 9, 0, false, api.OK)
	checkRaise(t, m, 1, 4, 0, false, api.OK)
	for range 3 {
		checkMarks(t, m, 9, 4, 0)
	}
	checkRaise(t, m, 2, 6, 4, true, api.OK)
	for range 3 {
		checkMarks(t, m, 9, 4, 6)
	}
}

func TestNilMarks(t *testing.T) { // P8.3, R3: ErrNil ahead of ErrArg
	var none *mark.Marks
	for _, i := range numbers {
		checkAt(t, none, i, 0, api.ErrNil)
		for _, at := range numbers {
			checkRaise(t, none, i, at, 0, false, api.ErrNil)
		}
	}
	if got := none.Least(); got != 0 {
		t.Errorf("Least() of nil Marks = %d", got)
	}
	refused, _ := mark.New(0)
	checkRaise(t, refused, 0, 1, 0, false, api.ErrNil)
	checkAt(t, refused, 0, 0, api.ErrNil)
}
