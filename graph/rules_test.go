package graph_test

import (
	"math"
	"math/rand/v2"
	"reflect"
	"slices"
	"strings"
	"testing"
	"unsafe"

	"watershed/api"
	"watershed/graph"
	"watershed/plan"
)

func TestNoCallPanics(t *testing.T) { // R1: whatever the numbers, lists and strings are
	numbers := []int{math.MinInt, -1, 0, 1, 2, 3, 16, math.MaxInt}
	names := []string{"", "a", "b", "c", "\xff", strings.Repeat("a", 1<<16)}
	s := rand.New(rand.NewPCG(1, 64))
	right := 0
	for range 20000 {
		p := links(oneOf(s, "ab", "abc", "abcd", "bbac", "ab\xff"))
		for range s.IntN(4) {
			f := api.Flow{Name: oneOf(s, "f", "g", "h"), From: oneOf(s, "a", "b", "c"), To: oneOf(s, "a", "b", "c"), Bound: -1, Readers: 1, Keepers: 1}
			if s.IntN(4) == 0 {
				f = api.Flow{Name: oneOf(s, names...), From: oneOf(s, names...), To: oneOf(s, names...), Bound: oneOf(s, numbers...), Readers: oneOf(s, numbers...), Keepers: oneOf(s, numbers...)}
			}
			p.Flows = append(p.Flows, f)
		}
		if _, e := plan.Check(p); e != api.OK {
			checkFault(t, "a wild plan", p, e)
			continue
		}
		right++
		checkTold(t, "a wild plan", p, second(p))
		for _, i := range numbers {
			if i < 0 || i >= len(p.Flows) {
				checkNoFlow(t, p, i)
			}
		}
	}
	if right < 2000 {
		t.Errorf("only %d plans have no error", right)
	}
}

func TestGreatLists(t *testing.T) { // R1: far more than the limits
	p := api.Plan{Topics: make([]api.Topic, 1<<20)}
	checkFault(t, "topics", p, api.ErrMany)
	p = links("ab", "ab")
	p.Flows[0].Pre = make([]api.Step, 1<<20)
	checkFault(t, "steps", p, api.ErrMany)
	p = api.Plan{Flows: make([]api.Flow, 1<<16)}
	if l, e := graph.Order(p); len(l) != 0 || e != api.ErrMany {
		t.Errorf("Order = %v, %d", l, e)
	}
	checkFlowError(t, "flows", p, 1<<15, api.ErrMany)
}

// spare returns a list with memory behind it, and that memory.
func spare[T any](l []T, behind T) ([]T, []T) {
	whole := append(slices.Clone(l), behind, behind, behind)
	return whole[:len(l)], whole
}

func TestArgumentsAreNotModified(t *testing.T) { // R2: nor is what lies behind them
	for seed := range uint64(2000) {
		p := somePlan(rand.New(rand.NewPCG(seed, 65)))
		var steps, stepsBefore [][]api.Step
		for i := range p.Flows {
			f := &p.Flows[i]
			var pre, post []api.Step
			f.Pre, pre = spare(f.Pre, api.Step{Kind: 77, Text: "behind"})
			f.Post, post = spare(f.Post, api.Step{Kind: 77, Text: "behind"})
			steps = append(steps, pre, post)
			stepsBefore = append(stepsBefore, slices.Clone(pre), slices.Clone(post))
		}
		var topics []api.Topic
		var flows []api.Flow
		p.Topics, topics = spare(p.Topics, api.Topic{Name: "behind"})
		p.Flows, flows = spare(p.Flows, api.Flow{Name: "behind"})
		topicsBefore, flowsBefore := slices.Clone(topics), slices.Clone(flows)
		tell(t, p)
		if !slices.Equal(topics, topicsBefore) || !reflect.DeepEqual(flows, flowsBefore) || !reflect.DeepEqual(steps, stepsBefore) {
			t.Fatalf("plan %d is modified", seed)
		}
	}
}

// spoil overwrites a list and the memory behind it.
func spoil[T any](l []T, _ api.Errno) {
	clear(l[:cap(l)])
}

func TestResultsAreNewMemory(t *testing.T) { // R2: what is written into them changes nothing
	for seed := range uint64(2000) {
		p := somePlan(rand.New(rand.NewPCG(seed, 66)))
		want := tell(t, p)
		spoil(graph.Order(p))
		spoil(graph.External(p))
		for i := range p.Flows {
			spoil(graph.Ahead(p, i))
			spoil(graph.Behind(p, i))
		}
		checkTold(t, "after results were overwritten", p, want)
	}
	p := chain(0, 1, 2, 3)
	first, _ := graph.Behind(p, 0)
	second, _ := graph.Behind(p, 0)
	spoil(second, api.OK)
	checkList(t, "the first of two results", first, api.OK, 1, 2, 3)
}

func TestNamesAreNotRetained(t *testing.T) { // R2: whatever becomes of the caller's memory
	names := []byte("clicks")
	p := links("ab", "ab")
	p.Topics = append(p.Topics, api.Topic{Name: unsafe.String(&names[0], len(names)), Parts: 4})
	got, e := graph.External(p)
	copy(names, "######")
	if !slices.Equal(got, []string{"a", "clicks"}) || e != api.OK {
		t.Errorf("External has become %q, %d", got, e)
	}
}

func TestCallsAreApart(t *testing.T) { // R2: a call leaves nothing behind for the next one
	bad := links("abx", "ab", "bx")
	bad.Flows[1].Keepers = 0
	for range 3 {
		checkTold(t, "a chain", links("abc", "ab", "bc"), told{"01", "- 0", "- 0", "1 -", "a"})
		checkFault(t, "no keepers", bad, api.ErrArg)
		checkTold(t, "a loop", links("abc", "ab", "ba"), told{"loop", "1 0", "01 01", "01 01", "c"})
		checkNoFlow(t, links("abc", "ab", "ba"), 2)
		checkTold(t, "the chain back", links("abc", "bc", "ab"), told{"10", "1 -", "1 -", "- 0", "a"})
		checkTold(t, "nothing", api.Plan{}, told{order: "-"})
	}
}

func TestTheSameEachTime(t *testing.T) { // R2: whatever the order in which a map is gone through
	p := links("abcdefghi", "ab", "ac", "bd", "be", "cf", "cg", "gh", "hi")
	want := told{"01234567", "- - 0 0 1 1 5 6", "- - 0 0 1 1 15 156", "23 4567 - - - 67 7 -", "a"}
	for range 200 {
		checkTold(t, "a tree", p, want)
	}
}
