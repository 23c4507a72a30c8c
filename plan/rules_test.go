package plan_test

import (
	"math"
	"math/rand/v2"
	"slices"
	"strings"
	"testing"
	"unsafe"

	"watershed/api"
	"watershed/plan"
)

func TestNoCallPanics(t *testing.T) { // R1: whatever the numbers, lists and strings are
	numbers := []int{math.MinInt, -1, 0, 1, 2, 3, 16, math.MaxInt}
	names := []string{"", "a", "b", "\xff", strings.Repeat("a", 1<<16)}
	s := rand.New(rand.NewPCG(1, 55))
	steps := func() []api.Step {
		var l []api.Step
		for range s.IntN(10) {
			l = append(l, api.Step{Kind: oneOf(s, numbers...), Text: oneOf(s, "", "v", " ", "\x00", strings.Repeat("(", 1000)), N: oneOf(s, numbers...)})
		}
		return l
	}
	for range 20000 {
		var p api.Plan
		for range s.IntN(20) {
			p.Topics = append(p.Topics, api.Topic{Name: oneOf(s, names...), Parts: oneOf(s, numbers...)})
		}
		if s.IntN(2) == 0 {
			p.Topics = []api.Topic{{Name: "a", Parts: 16}, {Name: "b", Parts: 16}}
		}
		for range s.IntN(10) {
			f := api.Flow{Name: oneOf(s, names...), From: oneOf(s, names...), To: oneOf(s, names...), Bound: oneOf(s, numbers...), Readers: oneOf(s, numbers...), Keepers: oneOf(s, numbers...), Pre: steps(), Agg: oneOf(s, numbers...), Post: steps()}
			f.Win = api.Window{Kind: oneOf(s, numbers...), Size: oneOf(s, numbers...), Slide: oneOf(s, numbers...)}
			if s.IntN(2) == 0 {
				f.Name, f.From, f.To, f.Bound, f.Readers, f.Keepers = "f", "a", "b", 0, 1, 1
			}
			p.Flows = append(p.Flows, f)
		}
		at, e := firstFault(p)
		checkCheck(t, "a wild plan", p, at, e)
	}
}

func TestNoTextPanics(t *testing.T) { // R1
	s := rand.New(rand.NewPCG(1, 56))
	for range 20000 {
		b := make([]byte, s.IntN(60))
		for i := range b {
			b[i] = oneOf(s, byte(s.IntN(256)), ' ', '\n', '#')
		}
		checkSecond(t, string(b))
		checkSecond(t, head+string(b))
	}
	for seed := range uint64(10000) { // and texts with some bytes changed
		b := []byte(someText(seed))
		for range s.IntN(4) {
			if len(b) > 0 {
				b[s.IntN(len(b))] = oneOf(s, byte(s.IntN(256)), ' ', '\n', '#', '0', 'a')
			}
		}
		checkSecond(t, string(b))
	}
}

func TestErrorsStandAlone(t *testing.T) { // R1: no plan and no text beside one, no position beside none
	for _, s := range []string{lines(text1...) + "what", lines(text1...) + "agg sum", lines(text1...) + "topic clicks 1", lines(text1[:6]...), strings.Repeat(" ", maxPlan+1)} {
		if p, _, e := plan.Parse(s); e == api.OK || p.Topics != nil || p.Flows != nil {
			t.Errorf("Parse(%q) = %v, %d", s, p, e)
		}
	}
}

func TestCallsAreApart(t *testing.T) { // R2: an error leaves nothing behind for the next call
	for range 3 {
		checkFault(t, head+"window tumble 5", 4, api.ErrStep)
		checkFault(t, "agg sum", 1, api.ErrStep)
		checkFault(t, head+"what", 4, api.ErrLine)
		checkParse(t, lines(text1...), plan1())
		checkParse(t, "", api.Plan{})
	}
}

// spare returns a list with memory behind it, and that memory.
func spare[T any](l []T, behind T) ([]T, []T) {
	whole := append(slices.Clone(l), behind, behind, behind)
	return whole[:len(l)], whole
}

func TestArgumentsAreNotModified(t *testing.T) { // R2: nor is what lies behind them
	for seed := range uint64(2000) {
		p := somePlan(seed)
		step := api.Step{Kind: 77, Text: "behind"}
		var wholes [][]api.Step
		var before [][]api.Step
		for i := range p.Flows {
			f := &p.Flows[i]
			var pre, post []api.Step
			f.Pre, pre = spare(f.Pre, step)
			f.Post, post = spare(f.Post, step)
			wholes = append(wholes, pre, post)
			before = append(before, slices.Clone(pre), slices.Clone(post))
		}
		topics, allTopics := spare(p.Topics, api.Topic{Name: "behind"})
		flows, allFlows := spare(p.Flows, api.Flow{Name: "behind"})
		p.Topics, p.Flows = topics, flows
		topicsBefore, flowsBefore := slices.Clone(allTopics), slices.Clone(allFlows)
		plan.Check(p)
		plan.Text(p)
		if !slices.Equal(allTopics, topicsBefore) || !slices.EqualFunc(allFlows, flowsBefore, sameFlow) || !slices.EqualFunc(wholes, before, slices.Equal) {
			t.Fatalf("plan %d is modified", seed)
		}
	}
}

func TestTextsAreNotRetained(t *testing.T) { // R2: whatever becomes of the caller's memory
	b := []byte(lines(text1...))
	p, _, e := plan.Parse(unsafe.String(&b[0], len(b)))
	if string(b) != lines(text1...) {
		t.Error("the text is modified")
	}
	for i := range b {
		b[i] = '#'
	}
	if e != api.OK || !same(p, plan1()) {
		t.Errorf("the plan has become %v", p)
	}
	q := plan1()
	name := []byte("clicks")
	q.Topics[0].Name = unsafe.String(&name[0], len(name))
	text, e := plan.Text(q)
	copy(name, "######")
	if e != api.OK || text != lines(text1...) {
		t.Errorf("the text has become %q", text)
	}
}

func TestListsOfResultsAreApart(t *testing.T) { // R2: no two share memory, also behind their ends
	text := lines("topic a 16", "topic b 16", "topic c 16", "topic d 16",
		"flow f from a to b marks readers 1 keepers 1", "filter 1", "filter 2", "filter 3", "window tumble 5", "agg sum", "set 4", "set 5", "set 6",
		"flow g from a to c marks readers 1 keepers 1", "filter 7", "filter 8", "filter 9", "window tumble 5", "agg sum", "set 10", "set 11", "set 12")
	listsOf := func(p api.Plan) []*[]api.Step {
		return []*[]api.Step{&p.Flows[0].Pre, &p.Flows[0].Post, &p.Flows[1].Pre, &p.Flows[1].Post}
	}
	want, _, _ := plan.Parse(text)
	other, _, _ := plan.Parse(text)
	for i := range listsOf(want) {
		p, _, _ := plan.Parse(text)
		l := listsOf(p)
		full := (*l[i])[:cap(*l[i])]
		for k := range full {
			full[k] = api.Step{Kind: 99}
		}
		for k := range l {
			if k != i && !slices.Equal(*l[k], *listsOf(want)[k]) {
				t.Errorf("list %d has become %v by what was written into list %d", k, *l[k], i)
			}
		}
		clear(p.Topics[:cap(p.Topics)])
		clear(p.Flows[:cap(p.Flows)])
	}
	checkParse(t, text, want)
	if !same(other, want) {
		t.Errorf("a plan has become %v", other)
	}
}
