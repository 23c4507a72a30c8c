package agg_test

import (
	"slices"
	"testing"

	"watershed/agg"
	"watershed/api"
)

// ones returns the accumulators of single values.
func ones(values []int) []api.Acc {
	var l []api.Acc
	for _, v := range values {
		l = append(l, agg.One(v))
	}
	return l
}

// orders hands every order of a list to do.
func orders(l []api.Acc, do func([]api.Acc)) {
	var next func(i int)
	next = func(i int) {
		if i == len(l) {
			do(slices.Clone(l))
			return
		}
		for k := i; k < len(l); k++ {
			l[i], l[k] = l[k], l[i]
			next(i + 1)
			l[i], l[k] = l[k], l[i]
		}
	}
	next(0)
}

// groupings returns what every grouping of a list gives, whose order stays.
func groupings(l []api.Acc) []api.Acc {
	if len(l) == 1 {
		return []api.Acc{l[0]}
	}
	var all []api.Acc
	for i := 1; i < len(l); i++ {
		for _, a := range groupings(l[:i]) {
			for _, b := range groupings(l[i:]) {
				all = append(all, agg.Join(a, b))
			}
		}
	}
	return all
}

// checkGroupings holds every order and grouping of a list, which is not empty, to one result.
func checkGroupings(t *testing.T, l []api.Acc, want api.Acc) {
	t.Helper()
	orders(l, func(order []api.Acc) {
		for i, got := range groupings(order) {
			if got != want {
				t.Fatalf("grouping %d of %v = %v, want %v", i, order, got, want)
			}
		}
	})
}

func TestNumberOfGroupings(t *testing.T) { // of the test's own means
	times := 0
	orders(ones([]int{1, 2, 3, 4}), func([]api.Acc) { times++ })
	if times != 24 || len(groupings(ones([]int{1, 2, 3, 4, 5}))) != 14 {
		t.Error("there are 24 orders of 4, and 14 groupings of 5")
	}
}

func TestEveryOrderAndGroupingOfThree(t *testing.T) { // P10.3: of all numbers, sums that wrap around among them
	for i, x := range numbers {
		for k, y := range numbers[i:] {
			for _, z := range numbers[i+k:] {
				values := []int{x, y, z}
				checkGroupings(t, ones(values), secondOf(values))
			}
		}
	}
}

func TestEveryOrderAndGroupingOfAFew(t *testing.T) { // P10.3
	s := newSource(6)
	for n, times := range []int{0, 10, 1000, 1000, 300, 20} {
		for range times {
			values := s.values(n)
			checkGroupings(t, ones(values), secondOf(values))
		}
	}
	values := s.values(6)
	checkGroupings(t, ones(values), secondOf(values))
}

func TestNoValuesMakeNoDifference(t *testing.T) { // P10.3: also if the fields beside the Count 0 are not 0
	s := newSource(7)
	for range 500 {
		values := s.values(1 + s.IntN(3))
		l := ones(values)
		for range 1 + s.IntN(5-len(values)) {
			l = append(l, empties[s.IntN(len(empties))])
		}
		checkGroupings(t, l, secondOf(values))
	}
	for _, a := range empties {
		for _, b := range empties {
			checkGroupings(t, []api.Acc{a, b}, api.Acc{})
			checkGroupings(t, []api.Acc{a, b, {Max: 1}}, api.Acc{})
		}
	}
}

// folded joins two accumulators of a list, which are anywhere in it, until one is left.
func (s source) folded(l []api.Acc) api.Acc {
	l = append([]api.Acc{{}}, l...)
	for len(l) > 1 {
		i := s.IntN(len(l))
		a := l[i]
		l = slices.Delete(l, i, i+1)
		k := s.IntN(len(l))
		l[k] = agg.Join(l[k], a)
	}
	return l[0]
}

func TestManyValues(t *testing.T) { // P10.3: arbitrary orders and groupings, against what an accumulator contains
	s := newSource(8)
	for range 300 {
		values := s.values(s.IntN(200))
		want := secondOf(values)
		l := ones(values)
		for range s.IntN(20) {
			l = append(l, empties[s.IntN(len(empties))])
		}
		for range 3 {
			if got := s.folded(l); got != want {
				t.Fatalf("%d values in an arbitrary grouping: %v, want %v", len(values), got, want)
			}
		}
		checkLines(t, l, want)
	}
}

// checkLines joins a list one by one, from its beginning on the left and from its end on the right.
func checkLines(t *testing.T, l []api.Acc, want api.Acc) {
	t.Helper()
	var left, right api.Acc
	for i := range l {
		left = agg.Join(left, l[i])
		right = agg.Join(l[len(l)-1-i], right)
	}
	if left != want || right != want {
		t.Fatalf("one by one: %v and %v, want %v", left, right, want)
	}
}

func TestPartsOfValues(t *testing.T) { // P10.3: values parted anywhere, each part on its own, as keepers of panes do
	s := newSource(9)
	for range 2000 {
		values := s.values(1 + s.IntN(30))
		cut := s.IntN(len(values) + 1)
		a, b := secondOf(values[:cut]), secondOf(values[cut:])
		checkJoin(t, a, b, secondOf(values))
		checkJoin(t, b, a, secondOf(values))
	}
}

func TestAggregatesOfValues(t *testing.T) { // P10.2, P10.3: what the kinds tell of many values
	s := newSource(10)
	for range 500 {
		values := s.values(1 + s.IntN(50))
		a := s.folded(ones(values))
		checkValues(t, a, [4]int{len(values), total(values...), slices.Min(values), slices.Max(values)})
	}
}
