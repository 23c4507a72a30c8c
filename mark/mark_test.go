package mark_test

import (
	"testing"

	"watershed/api"
	"watershed/mark"
)

func checkLate(t *testing.T, at, time int, want bool) {
	t.Helper()
	if got := mark.Late(at, time); got != want {
		t.Errorf("Late(%d, %d) = %v, want %v", at, time, got, want)
	}
}

func checkNext(t *testing.T, at, bound, time, want int, e api.Errno) {
	t.Helper()
	if got, err := mark.Next(at, bound, time); got != want || err != e {
		t.Errorf("Next(%d, %d, %d) = %d, %d, want %d, %d", at, bound, time, got, err, want, e)
	}
}

// made returns new marks of n inputs.
func made(t *testing.T, n int) *mark.Marks {
	t.Helper()
	m, e := mark.New(n)
	if m == nil || e != api.OK {
		t.Fatalf("New(%d) = %v, %d", n, m, e)
	}
	return m
}

func checkRaise(t *testing.T, m *mark.Marks, i, at, least int, raised bool, e api.Errno) {
	t.Helper()
	if got, r, err := m.Raise(i, at); got != least || r != raised || err != e {
		t.Errorf("Raise(%d, %d) = %d, %v, %d, want %d, %v, %d", i, at, got, r, err, least, raised, e)
	}
}

func checkAt(t *testing.T, m *mark.Marks, i, want int, e api.Errno) {
	t.Helper()
	if got, err := m.At(i); got != want || err != e {
		t.Errorf("At(%d) = %d, %d, want %d, %d", i, got, err, want, e)
	}
}

// checkMarks holds the marks of all inputs, and the least of them, to those that are wanted.
func checkMarks(t *testing.T, m *mark.Marks, want ...int) {
	t.Helper()
	least := want[0]
	for i, at := range want {
		checkAt(t, m, i, at, api.OK)
		least = min(least, at)
	}
	checkAt(t, m, len(want), 0, api.ErrArg)
	if got := m.Least(); got != least {
		t.Errorf("Least() of the marks %v = %d, want %d", want, got, least)
	}
}

func TestExamples(t *testing.T) { // the chapter's table
	checkLate(t, 5, 4, true)
	checkLate(t, 5, 5, false)
	checkNext(t, 0, 3, 10, 7, api.OK)
	checkNext(t, 7, 3, 9, 7, api.OK)
	checkNext(t, 7, -1, 99, 7, api.OK)
	checkNext(t, 0, 0, 0, 0, api.OK)
	m := made(t, 2)
	checkRaise(t, m, 0, 5, 0, false, api.OK)
	checkRaise(t, m, 1, 3, 3, true, api.OK)
	checkRaise(t, m, 1, 9, 5, true, api.OK)
	checkRaise(t, m, 1, 2, 5, false, api.OK)
	checkRaise(t, m, 2, 1, 0, false, api.ErrArg)
	checkRaise(t, m, 0, 1000000002, 0, false, api.ErrArg)
	if none, e := mark.New(0); none != nil || e != api.ErrArg {
		t.Errorf("New(0) = %v, %d", none, e)
	}
}

func TestNextOfTheDocumentsExample(t *testing.T) { // P8.1: DOC.md's eighth example, of the times 9 and 4 with a bound of 3
	checkNext(t, 0, 3, 9, 6, api.OK)
	checkLate(t, 6, 4, true)
	checkNext(t, 6, 3, 4, 6, api.OK)
}

func TestNextStays(t *testing.T) { // P8.1: with no bound, and while the time less the bound is not greater
	for _, at := range []int{0, 1, 7, maxTime, forever} {
		for _, time := range []int{0, 1, 7, 8, maxTime} {
			checkNext(t, at, -1, time, at, api.OK)
		}
		checkNext(t, at, maxBound, 0, at, api.OK)
		checkNext(t, at, 5, 2, at, api.OK)
		checkNext(t, at, 1, 0, at, api.OK)
	}
	checkNext(t, 7, 3, 10, 7, api.OK)
	checkNext(t, 7, 3, 11, 8, api.OK)
	checkNext(t, forever, 0, maxTime, forever, api.OK)
}

func TestNextAtTheLimits(t *testing.T) { // P8.1: what is just within them
	checkNext(t, 0, 0, maxTime, maxTime, api.OK)
	checkNext(t, 0, maxBound, maxTime, maxTime-maxBound, api.OK)
	checkNext(t, 0, maxBound, maxBound, 0, api.OK)
	checkNext(t, 0, maxBound, maxBound+1, 1, api.OK)
	checkNext(t, maxTime, 0, maxTime, maxTime, api.OK)
	checkNext(t, maxTime-1, 0, maxTime, maxTime, api.OK)
}

func TestNewMarksAreZero(t *testing.T) { // P8.2: of every number of inputs
	for n := 1; n <= maxParts; n++ {
		checkMarks(t, made(t, n), make([]int, n)...)
	}
}

func TestRaiseSetsOneMark(t *testing.T) { // P8.2: to a greater one, not to an equal or a lesser one
	for n := 1; n <= maxParts; n++ {
		for i := range n {
			m, want := made(t, n), make([]int, n)
			for _, at := range []int{0, 5, 4, 5, 6, 0, 6, maxTime, 7, maxTime, forever, maxTime, forever, 0} {
				want[i] = max(want[i], at)
				if _, _, e := m.Raise(i, at); e != api.OK {
					t.Errorf("Raise(%d, %d) of %d inputs returns %d", i, at, n, e)
				}
				checkMarks(t, m, want...)
			}
		}
	}
}

func TestRaisedOfOneInput(t *testing.T) { // P8.2: its mark is the least
	m := made(t, 1)
	checkRaise(t, m, 0, 0, 0, false, api.OK)
	checkRaise(t, m, 0, 1, 1, true, api.OK)
	checkRaise(t, m, 0, 1, 1, false, api.OK)
	checkRaise(t, m, 0, 0, 1, false, api.OK)
	checkRaise(t, m, 0, maxTime, maxTime, true, api.OK)
	checkRaise(t, m, 0, forever, forever, true, api.OK)
	checkRaise(t, m, 0, forever, forever, false, api.OK)
	checkRaise(t, m, 0, maxTime, forever, false, api.OK)
	checkMarks(t, m, forever)
}

func TestRaisedWhileOneStaysBehind(t *testing.T) { // P8.2: whatever the others do, the least is raised by that one alone
	for n := 2; n <= maxParts; n++ {
		for last := range n {
			m := made(t, n)
			for at := 10; at <= 30; at += 10 {
				for i := range n {
					if i != last {
						checkRaise(t, m, i, at+i, 0, false, api.OK)
					}
				}
			}
			checkRaise(t, m, last, 7, 7, true, api.OK)
			checkRaise(t, m, last, 7, 7, false, api.OK)
			checkRaise(t, m, last, 29, 29, true, api.OK)
			first := 30 // the mark of input 0, or of input 1 if input 0 stayed behind
			if last == 0 {
				first = 31
			}
			checkRaise(t, m, last, forever, first, true, api.OK)
		}
	}
}

func TestRaisedAmongEqualMarks(t *testing.T) { // P8.2: the least is raised when the last one that has it is
	for n := 2; n <= maxParts; n++ {
		m := made(t, n)
		for at, before := 4, 0; at <= 12; at, before = at+4, at {
			for i := range n - 1 {
				checkRaise(t, m, i, at, before, false, api.OK)
			}
			checkRaise(t, m, n-1, at, at, true, api.OK)
			for i := range n {
				checkRaise(t, m, i, at, at, false, api.OK)
				checkRaise(t, m, i, at-1, at, false, api.OK)
			}
		}
	}
}

func TestRaisedToForever(t *testing.T) { // P8.2: by the last of the inputs, whichever that is
	for n := 1; n <= maxParts; n++ {
		for last := range n {
			m := made(t, n)
			for i := range n {
				if i != last {
					checkRaise(t, m, i, forever, 0, false, api.OK)
				}
			}
			checkRaise(t, m, last, maxTime, maxTime, true, api.OK)
			checkRaise(t, m, last, forever, forever, true, api.OK)
			for i := range n {
				checkRaise(t, m, i, forever, forever, false, api.OK)
				checkRaise(t, m, i, 0, forever, false, api.OK)
				checkAt(t, m, i, forever, api.OK)
			}
		}
	}
}
