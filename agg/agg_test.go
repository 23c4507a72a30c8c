package agg_test

import (
	"math"
	"testing"

	"watershed/agg"
	"watershed/api"
)

// acc returns an accumulator of its fields.
func acc(count, sum, least, greatest int) api.Acc {
	return api.Acc{Count: count, Sum: sum, Min: least, Max: greatest}
}

func checkOne(t *testing.T, v int, want api.Acc) {
	t.Helper()
	if got := agg.One(v); got != want {
		t.Errorf("One(%d) = %v, want %v", v, got, want)
	}
}

func checkJoin(t *testing.T, a, b, want api.Acc) {
	t.Helper()
	if got := agg.Join(a, b); got != want {
		t.Errorf("Join(%v, %v) = %v, want %v", a, b, got, want)
	}
}

func checkValue(t *testing.T, kind int, a api.Acc, want int, e api.Errno) {
	t.Helper()
	if got, err := agg.Value(kind, a); got != want || err != e {
		t.Errorf("Value(%d, %v) = %d, %d, want %d, %d", kind, a, got, err, want, e)
	}
}

// checkValues holds all four kinds to what is wanted of each.
func checkValues(t *testing.T, a api.Acc, want [4]int) {
	t.Helper()
	for i, v := range want {
		checkValue(t, 1+i, a, v, api.OK)
	}
}

func TestExamples(t *testing.T) { // the chapter's table
	checkValues(t, agg.Join(agg.One(5), agg.One(-2)), [4]int{2, 3, -2, 5})
	checkJoin(t, api.Acc{}, agg.One(7), agg.One(7))
	checkValue(t, 0, agg.One(7), 0, api.ErrArg)
	checkValue(t, 2, api.Acc{}, 0, api.ErrNone)
}

func TestOne(t *testing.T) { // P10.1
	checkOne(t, 0, acc(1, 0, 0, 0))
	checkOne(t, 1, acc(1, 1, 1, 1))
	checkOne(t, -1, acc(1, -1, -1, -1))
	checkOne(t, 7, acc(1, 7, 7, 7))
	checkOne(t, math.MinInt, acc(1, math.MinInt, math.MinInt, math.MinInt))
	checkOne(t, math.MaxInt, acc(1, math.MaxInt, math.MaxInt, math.MaxInt))
}

func TestOneOfAnyValue(t *testing.T) { // P10.1
	s := newSource(1)
	for range 10000 {
		v := s.number()
		checkOne(t, v, acc(1, v, v, v))
	}
}

func TestJoin(t *testing.T) { // P10.1: worked out by hand
	for _, x := range []struct{ a, b, want api.Acc }{
		{acc(1, 5, 5, 5), acc(1, -2, -2, -2), acc(2, 3, -2, 5)},
		{acc(1, 5, 5, 5), acc(1, 5, 5, 5), acc(2, 10, 5, 5)},
		{acc(2, 3, -2, 5), acc(3, 6, 1, 3), acc(5, 9, -2, 5)},
		{acc(2, 10, 4, 6), acc(2, 3, -2, 5), acc(4, 13, -2, 6)},
		{acc(2, 3, 1, 2), acc(2, 7, 3, 4), acc(4, 10, 1, 4)},
		{acc(1, 0, 0, 0), acc(1, 0, 0, 0), acc(2, 0, 0, 0)},
		{acc(1, 0, 0, 0), acc(1, -1, -1, -1), acc(2, -1, -1, 0)},
		{acc(3, 0, 8, 9), acc(4, 0, 8, 9), acc(7, 0, 8, 9)},
	} {
		checkJoin(t, x.a, x.b, x.want)
		checkJoin(t, x.b, x.a, x.want)
	}
}

func TestJoinOfWhatNoValuesHave(t *testing.T) { // P10.1: a Count below 0, a Min greater than its Max
	for _, x := range []struct{ a, b, want api.Acc }{
		{acc(-1, 2, 3, 4), acc(3, 4, 5, 6), acc(2, 6, 3, 6)},
		{acc(-1, 2, 3, 4), acc(-2, -4, 1, 2), acc(-3, -2, 1, 4)},
		{acc(2, 2, 9, -9), acc(1, 1, 4, 4), acc(3, 3, 4, 4)},
		{acc(2, 2, 9, -9), acc(1, 1, 8, -8), acc(3, 3, 8, -8)},
		{acc(2, 2, 9, 5), acc(1, 1, 12, 3), acc(3, 3, 9, 5)},
		{acc(5, 1, 2, 3), acc(-5, 4, 1, 7), acc(0, 5, 1, 7)}, // neither of them has the Count 0
		{acc(math.MinInt, 1, 2, 3), acc(math.MinInt, 4, 1, 7), acc(0, 5, 1, 7)},
		{acc(1, math.MinInt, math.MaxInt, math.MinInt), acc(1, 1, math.MinInt, math.MaxInt), acc(2, math.MinInt+1, math.MinInt, math.MaxInt)},
		{acc(1, 0, math.MaxInt, math.MinInt), acc(1, 0, math.MaxInt, math.MinInt), acc(2, 0, math.MaxInt, math.MinInt)},
	} {
		checkJoin(t, x.a, x.b, x.want)
		checkJoin(t, x.b, x.a, x.want)
	}
}

func TestJoinWrapsAround(t *testing.T) { // P10.1: Count and Sum, in both directions
	for _, x := range []struct{ a, b, want int }{
		{math.MaxInt, 1, math.MinInt},
		{math.MaxInt, 2, math.MinInt + 1},
		{math.MaxInt - 1, 1, math.MaxInt},
		{math.MaxInt, math.MaxInt, -2},
		{math.MinInt, -1, math.MaxInt},
		{math.MinInt, -2, math.MaxInt - 1},
		{math.MinInt + 1, -1, math.MinInt},
		{math.MinInt, math.MinInt, 0},
		{math.MinInt, math.MaxInt, -1},
		{1 << 62, 1 << 62, math.MinInt},
		{-1 << 62, -1 << 62, math.MinInt},
		{-1 << 62, -1<<62 - 1, math.MaxInt},
	} {
		checkJoin(t, acc(x.a, 5, 2, 3), acc(x.b, 6, 1, 4), acc(x.want, 11, 1, 4))
		checkJoin(t, acc(x.b, 5, 2, 3), acc(x.a, 6, 1, 4), acc(x.want, 11, 1, 4))
		checkJoin(t, acc(1, x.a, 2, 3), acc(2, x.b, 1, 4), acc(3, x.want, 1, 4))
		checkJoin(t, acc(1, x.b, 2, 3), acc(2, x.a, 1, 4), acc(3, x.want, 1, 4))
	}
	checkJoin(t, agg.One(math.MaxInt), agg.One(1), acc(2, math.MinInt, 1, math.MaxInt))
	checkJoin(t, agg.One(math.MinInt), agg.One(-1), acc(2, math.MaxInt, math.MinInt, -1))
	checkJoin(t, agg.One(math.MinInt), agg.One(math.MaxInt), acc(2, -1, math.MinInt, math.MaxInt))
}

// empties have the Count 0; each field but that alone, and all of them, are something else than 0.
var empties = []api.Acc{
	{}, {Sum: 3}, {Sum: -3}, {Min: 4}, {Min: -4}, {Max: 1}, {Max: -1}, {Sum: 3, Min: -4, Max: 1}, {Sum: -3, Min: 4, Max: -1},
	{Sum: math.MinInt, Min: math.MinInt, Max: math.MinInt}, {Sum: math.MaxInt, Min: math.MaxInt, Max: math.MaxInt}, {Min: math.MaxInt, Max: math.MinInt},
}

// others have a Count that is not 0.
var others = []api.Acc{
	{Count: 1}, {Count: 1, Sum: 7, Min: 7, Max: 7}, {Count: 2, Sum: 3, Min: -2, Max: 5}, {Count: -1}, {Count: -3, Sum: 2, Min: 9, Max: -9},
	{Count: 1, Sum: -8, Min: -8, Max: -8}, {Count: 1, Sum: math.MaxInt, Min: math.MaxInt, Max: math.MaxInt}, {Count: 1, Sum: math.MinInt, Min: math.MinInt, Max: math.MinInt},
	{Count: math.MinInt, Sum: math.MaxInt, Min: math.MaxInt, Max: math.MinInt}, {Count: math.MaxInt, Sum: math.MinInt, Min: math.MinInt, Max: math.MaxInt}, {Count: 1 << 32}, {Count: -1 << 63},
}

func TestJoinWithCountZero(t *testing.T) { // P10.1: on either side, whatever the other fields are; zero if on both
	for _, empty := range empties {
		for _, other := range others {
			checkJoin(t, empty, other, other)
			checkJoin(t, other, empty, other)
		}
		for _, second := range empties {
			checkJoin(t, empty, second, api.Acc{})
		}
	}
}

func TestValue(t *testing.T) { // P10.2: the field of each kind, whatever it is
	checkValues(t, acc(4, 3, 2, 1), [4]int{4, 3, 2, 1})
	checkValues(t, acc(1, 0, 0, 0), [4]int{1, 0, 0, 0})
	checkValues(t, acc(-1, 2, -3, 4), [4]int{-1, 2, -3, 4})
	checkValues(t, acc(math.MinInt, math.MaxInt, math.MaxInt, math.MinInt), [4]int{math.MinInt, math.MaxInt, math.MaxInt, math.MinInt})
	checkValues(t, acc(math.MaxInt, math.MinInt, math.MinInt, math.MaxInt), [4]int{math.MaxInt, math.MinInt, math.MinInt, math.MaxInt})
	for _, other := range others {
		checkValues(t, other, [4]int{other.Count, other.Sum, other.Min, other.Max})
	}
}

func TestKindsAreNumbered(t *testing.T) { // P10.2: the names stand for 1 to 4
	a := acc(10, 20, 30, 40)
	checkValue(t, api.AggCount, a, 10, api.OK)
	checkValue(t, api.AggSum, a, 20, api.OK)
	checkValue(t, api.AggMin, a, 30, api.OK)
	checkValue(t, api.AggMax, a, 40, api.OK)
	if api.AggCount != 1 || api.AggSum != 2 || api.AggMin != 3 || api.AggMax != 4 {
		t.Error("the kinds are not 1 to 4")
	}
}

func TestValueOfNoValues(t *testing.T) { // P10.2: ErrNone for each kind, also if other fields are not 0
	for _, empty := range empties {
		for kind := 1; kind <= 4; kind++ {
			checkValue(t, kind, empty, 0, api.ErrNone)
		}
	}
}

func TestValueOfWrongKinds(t *testing.T) { // P10.2: ErrArg, ahead of ErrNone
	for _, kind := range wrongKinds {
		for _, empty := range empties {
			checkValue(t, kind, empty, 0, api.ErrArg)
		}
		for _, other := range others {
			checkValue(t, kind, other, 0, api.ErrArg)
		}
	}
}

func TestNumbersOfErrors(t *testing.T) { // the chapter's list of errors
	if _, e := agg.Value(5, api.Acc{}); e != 1 {
		t.Errorf("a wrong kind: %d", e)
	}
	if _, e := agg.Value(1, api.Acc{}); e != 6 {
		t.Errorf("no values: %d", e)
	}
}
