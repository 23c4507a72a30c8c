package graph_test

import (
	"math/rand/v2"
	"slices"
	"testing"

	"watershed/api"
	"watershed/graph"
)

func contains(l []int, i int) bool {
	return slices.Contains(l, i)
}

// checkShapes calls check with a plan of every shape of up to five flows, and with many arbitrary plans.
func checkShapes(t *testing.T, check func(p api.Plan)) {
	t.Helper()
	for n := range 6 {
		everyShape(n, check)
	}
	for seed := range uint64(5000) {
		check(somePlan(rand.New(rand.NewPCG(seed, 62))))
	}
}

func TestEveryShape(t *testing.T) { // P6.1, P6.2: of up to six flows, against the second reading
	for n := range 7 {
		everyShape(n, func(p api.Plan) { checkTold(t, "a shape", p, second(p)) })
	}
}

func TestManyPlans(t *testing.T) { // P6.1, P6.2: against the second reading
	var loops, moved int
	for seed := range uint64(20000) {
		p := somePlan(rand.New(rand.NewPCG(seed, 63)))
		want := second(p)
		checkTold(t, "a plan", p, want)
		switch {
		case want.order == "loop":
			loops++
		case len(p.Flows) > 0 && want.order != "01234567"[:len(p.Flows)]:
			moved++
		}
	}
	if loops < 2000 || moved < 2000 {
		t.Errorf("only %d plans have a loop, and %d another order than that of their numbers", loops, moved)
	}
}

func TestAheadAndBehind(t *testing.T) { // P6.3: each is contained in the one's Ahead if and only if that one is contained in its Behind
	checkShapes(t, func(p api.Plan) {
		for i := range p.Flows {
			ahead, _ := graph.Ahead(p, i)
			for k := range p.Flows {
				behind, _ := graph.Behind(p, k)
				if contains(ahead, k) != contains(behind, i) {
					t.Errorf("%v: Ahead(%d) = %v, Behind(%d) = %v", p, i, ahead, k, behind)
				}
			}
		}
	})
}

func TestListsIncrease(t *testing.T) { // P6.2: and have only flows that are there
	increases := func(p api.Plan, l []int) bool {
		for at, i := range l {
			if i < 0 || i >= len(p.Flows) || at > 0 && l[at-1] >= i {
				return false
			}
		}
		return true
	}
	checkShapes(t, func(p api.Plan) {
		for i := range p.Flows {
			ahead, _ := graph.Ahead(p, i)
			behind, _ := graph.Behind(p, i)
			if !increases(p, ahead) || !increases(p, behind) {
				t.Errorf("%v: Ahead(%d) = %v, Behind(%d) = %v", p, i, ahead, i, behind)
			}
		}
	})
}

func TestAheadIsTheSourceAndItsOwn(t *testing.T) { // P6.2: as the chapter says what `depends on` means
	checkShapes(t, func(p api.Plan) {
		for i := range p.Flows {
			ahead, _ := graph.Ahead(p, i)
			source, _ := graph.Source(p, i)
			var want []int
			if source != -1 {
				want, _ = graph.Ahead(p, source)
				want = append(want, source)
			}
			slices.Sort(want)
			if want = slices.Compact(want); !slices.Equal(ahead, want) {
				t.Errorf("%v: Ahead(%d) = %v, want %v", p, i, ahead, want)
			}
		}
	})
}

func TestOrderAndLoops(t *testing.T) { // P6.3: ErrLoop if and only if some flow is contained in its own Behind
	checkShapes(t, func(p api.Plan) {
		loop := false
		for i := range p.Flows {
			behind, _ := graph.Behind(p, i)
			loop = loop || contains(behind, i)
		}
		if _, e := graph.Order(p); (e == api.ErrLoop) != loop || !loop && e != api.OK {
			t.Errorf("%v: Order = %d, a loop: %t", p, e, loop)
		}
	})
}

// firstRightList returns the first one of all lists of n flows in which each is after those that it depends on.
func firstRightList(p api.Plan, n int) []int {
	isRight := func(l []int) bool {
		for at, i := range l {
			ahead, _ := graph.Ahead(p, i)
			for _, k := range ahead {
				if !contains(l[:at], k) {
					return false
				}
			}
		}
		return true
	}
	var first []int
	var extend func(l []int)
	extend = func(l []int) {
		if len(l) == n && first == nil && isRight(l) {
			first = slices.Clone(l)
		}
		for i := range n {
			if first == nil && !contains(l, i) {
				extend(append(l, i))
			}
		}
	}
	extend(nil)
	return first
}

func TestOrderIsTheFirstRightList(t *testing.T) { // P6.1: with the least number always next no right list is ahead of it
	for n := range 5 {
		everyShape(n, func(p api.Plan) {
			l, e := graph.Order(p)
			if want := firstRightList(p, n); !slices.Equal(l, want) || n > 0 && (e == api.OK) != (want != nil) {
				t.Errorf("%v: Order = %v, %d, want %v", p, l, e, want)
			}
		})
	}
}

func TestExternalAndSource(t *testing.T) { // P6.2: a flow has no source if and only if it reads an external topic
	checkShapes(t, func(p api.Plan) {
		names, _ := graph.External(p)
		for i, f := range p.Flows {
			if source, e := graph.Source(p, i); (source == -1) != slices.Contains(names, f.From) || e != api.OK {
				t.Errorf("%v: Source(%d) = %d, %d, External = %q", p, i, source, e, names)
			}
		}
	})
}
