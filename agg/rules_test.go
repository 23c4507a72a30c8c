package agg_test

import (
	"testing"

	"watershed/agg"
	"watershed/api"
)

func TestJoinOfAllCounts(t *testing.T) { // P10.1, R1: each Count with each, and so each Sum
	for _, x := range numbers {
		for _, y := range numbers {
			checkJoin(t, acc(x, 1, 2, 3), acc(y, 4, 0, 5), secondJoin(acc(x, 1, 2, 3), acc(y, 4, 0, 5)))
			checkJoin(t, acc(1, x, 2, 3), acc(2, y, 0, 5), secondJoin(acc(1, x, 2, 3), acc(2, y, 0, 5)))
			checkJoin(t, acc(1, x, 2, 3), acc(0, y, 0, 5), secondJoin(acc(1, x, 2, 3), acc(0, y, 0, 5)))
			checkJoin(t, acc(x, x, x, x), acc(y, y, y, y), secondJoin(acc(x, x, x, x), acc(y, y, y, y)))
		}
	}
}

func TestJoinOfAllEnds(t *testing.T) { // P10.1, R1: each Min and Max with each, also a Min greater than its Max
	for _, w := range numbers {
		for _, x := range numbers {
			for _, y := range numbers {
				for _, z := range numbers {
					a, b := acc(1, 0, w, x), acc(2, 0, y, z)
					checkJoin(t, a, b, acc(3, 0, min(w, y), max(x, z)))
				}
			}
		}
	}
}

func TestJoinOfAnyTwo(t *testing.T) { // P10.1, R1: against the second reading
	s := newSource(2)
	var met [3]int // by how many of the two have values
	for range 200000 {
		a, b := s.acc(), s.acc()
		checkJoin(t, a, b, secondJoin(a, b))
		some := 0
		for _, x := range []api.Acc{a, b} {
			if x.Count != 0 {
				some++
			}
		}
		met[some]++
		if t.Failed() {
			t.FailNow()
		}
	}
	for some, times := range met {
		if times < 1000 {
			t.Errorf("only %d times %d of the two have values", times, some)
		}
	}
}

func TestValueOfAllKinds(t *testing.T) { // P10.2, R1: with any accumulator, against the second reading
	kinds := append([]int{1, 2, 3, 4}, wrongKinds...)
	s := newSource(3)
	for _, kind := range kinds {
		for _, count := range numbers {
			for _, other := range numbers {
				a := acc(count, other, other/2, -other)
				want, e := secondValue(kind, a)
				checkValue(t, kind, a, want, e)
			}
		}
		for range 5000 {
			a := s.acc()
			want, e := secondValue(kind, a)
			checkValue(t, kind, a, want, e)
		}
	}
}

func TestValueOfAnyKind(t *testing.T) { // P10.2, R1
	s := newSource(4)
	for range 100000 {
		kind, a := s.number(), s.acc()
		want, e := secondValue(kind, a)
		checkValue(t, kind, a, want, e)
		if t.Failed() {
			t.FailNow()
		}
	}
}

func TestCallsDoNotRememberEarlierOnes(t *testing.T) { // R2
	s := newSource(5)
	for range 5000 {
		v, kind, a, b := s.number(), s.IntN(6), s.acc(), s.acc()
		one, both := agg.One(v), agg.Join(a, b)
		value, e := agg.Value(kind, a)
		agg.One(s.number())
		agg.Join(s.acc(), s.acc())
		agg.Value(s.IntN(6), s.acc())
		checkOne(t, v, one)
		checkJoin(t, a, b, both)
		checkValue(t, kind, a, value, e)
	}
}
