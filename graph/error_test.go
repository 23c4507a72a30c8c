package graph_test

import (
	"math"
	"strings"
	"testing"

	"watershed/api"
	"watershed/graph"
	"watershed/plan"
)

// checkFlowError reports a plan whose flow i gives something else than an error, and nothing beside it.
func checkFlowError(t *testing.T, what string, p api.Plan, i int, want api.Errno) {
	t.Helper()
	if s, e := graph.Source(p, i); s != 0 || e != want {
		t.Errorf("%s: Source(%d) = %d, %d, want %d", what, i, s, e, want)
	}
	if l, e := graph.Ahead(p, i); len(l) != 0 || e != want {
		t.Errorf("%s: Ahead(%d) = %v, %d, want %d", what, i, l, e, want)
	}
	if l, e := graph.Behind(p, i); len(l) != 0 || e != want {
		t.Errorf("%s: Behind(%d) = %v, %d, want %d", what, i, l, e, want)
	}
}

// checkNoFlow reports a plan that seems to have a flow i.
func checkNoFlow(t *testing.T, p api.Plan, i int) {
	t.Helper()
	checkFlowError(t, "no flow", p, i, api.ErrArg)
}

// checkFault reports a plan of which some call returns something else than an error, and nothing beside it, whether i is a flow or not.
func checkFault(t *testing.T, what string, p api.Plan, want api.Errno) {
	t.Helper()
	if l, e := graph.Order(p); len(l) != 0 || e != want {
		t.Errorf("%s: Order = %v, %d, want %d", what, l, e, want)
	}
	if l, e := graph.External(p); len(l) != 0 || e != want {
		t.Errorf("%s: External = %q, %d, want %d", what, l, e, want)
	}
	for i := range p.Flows {
		checkFlowError(t, what, p, i, want)
	}
	for _, i := range []int{-1, len(p.Flows), maxFlows, 101, math.MinInt, math.MaxInt} {
		checkFlowError(t, what, p, i, want)
	}
}

func TestNoSuchFlow(t *testing.T) { // P6.2: ErrArg
	for n := range maxFlows + 1 {
		flows := []string{"ab", "bc", "cd", "de", "ef", "fg", "gh", "hi"}[:n]
		p := links("abcdefghi", flows...)
		for _, i := range []int{-1, -2, -n, n, n + 1, 100, 101, 1 << 32, -1 << 32, math.MaxInt32, math.MinInt32, math.MaxInt, math.MinInt} {
			if i < 0 || i >= n {
				checkNoFlow(t, p, i)
			}
		}
	}
	for _, i := range []int{-1, 2, math.MaxInt, math.MinInt} { // and where there is a loop
		checkNoFlow(t, links("ab", "ab", "ba"), i)
	}
}

// breach gives a plan with three topics and two flows an error.
type breach struct {
	what   string
	e      api.Errno
	change func(p *api.Plan)
}

var breaches = []breach{
	{"too many topics", api.ErrMany, func(p *api.Plan) { p.Topics = make([]api.Topic, maxTopics+1) }},
	{"too many flows", api.ErrMany, func(p *api.Plan) { p.Flows = make([]api.Flow, maxFlows+1) }},
	{"a topic's name", api.ErrName, func(p *api.Plan) { p.Topics[2].Name = "" }},
	{"a topic's long name", api.ErrName, func(p *api.Plan) { p.Topics[2].Name = strings.Repeat("a", 17) }},
	{"a topic twice", api.ErrTwice, func(p *api.Plan) { p.Topics[2].Name = p.Topics[0].Name }},
	{"no partitions", api.ErrArg, func(p *api.Plan) { p.Topics[2].Parts = 0 }},
	{"too many partitions", api.ErrArg, func(p *api.Plan) { p.Topics[2].Parts = maxParts + 1 }},
	{"a flow's name", api.ErrName, func(p *api.Plan) { p.Flows[1].Name = "F" }},
	{"a flow twice", api.ErrTwice, func(p *api.Plan) { p.Flows[1].Name = p.Flows[0].Name }},
	{"no topic From", api.ErrTopic, func(p *api.Plan) { p.Flows[1].From = "zz" }},
	{"no topic To", api.ErrTopic, func(p *api.Plan) { p.Flows[0].To = "zz" }},
	{"To is From", api.ErrTopic, func(p *api.Plan) { p.Flows[0].To = p.Flows[0].From }},
	{"To is written by an earlier flow", api.ErrTopic, func(p *api.Plan) { p.Flows[0].From, p.Flows[1].From, p.Flows[1].To = "x", "x", p.Flows[0].To }},
	{"To without 16 partitions", api.ErrTopic, func(p *api.Plan) { p.Topics[1].Parts = 15 }},
	{"a bound behind a flow", api.ErrArg, func(p *api.Plan) { p.Flows[1].Bound = 0 }},
	{"a bound", api.ErrArg, func(p *api.Plan) { p.Flows[0].Bound = -2 }},
	{"readers", api.ErrArg, func(p *api.Plan) { p.Flows[1].Readers = maxSub + 1 }},
	{"keepers", api.ErrArg, func(p *api.Plan) { p.Flows[1].Keepers = 0 }},
	{"a window", api.ErrArg, func(p *api.Plan) { p.Flows[1].Win.Kind = 4 }},
	{"an aggregate", api.ErrArg, func(p *api.Plan) { p.Flows[1].Agg = 1 }},
	{"too many steps", api.ErrMany, func(p *api.Plan) { p.Flows[1].Pre = make([]api.Step, maxSteps+1) }},
	{"no window", api.ErrStep, func(p *api.Plan) { p.Flows[1].Post = make([]api.Step, 1) }},
	{"a step", api.ErrStep, func(p *api.Plan) { p.Flows[1].Pre = make([]api.Step, 1) }},
	{"an empty expression", api.ErrEnd, func(p *api.Plan) { p.Flows[1].Pre = []api.Step{{Kind: api.StepFilter}} }},
	{"an expression's end", api.ErrEnd, func(p *api.Plan) { p.Flows[1].Pre = []api.Step{{Kind: api.StepSet, Text: "v +"}} }},
	{"an expression's word", api.ErrWord, func(p *api.Plan) { p.Flows[1].Pre = []api.Step{{Kind: api.StepSet, Text: "#"}} }},
	{"an expression's bytes", api.ErrLong, func(p *api.Plan) {
		p.Flows[1].Pre = []api.Step{{Kind: api.StepSet, Text: "v" + strings.Repeat(" ", 200) + "+v"}}
	}},
	{"an expression's parts", api.ErrMany, func(p *api.Plan) {
		p.Flows[1].Pre = []api.Step{{Kind: api.StepSet, Text: strings.Repeat("-", 64) + "v"}}
	}},
}

func TestErrorsOfCheck(t *testing.T) { // P6.1: they come first, whether i is a flow or not, and where the plan has a loop besides
	for _, b := range breaches {
		for what, flows := range map[string][]string{"a chain": {"ab", "bx"}, "a chain and more": {"ab", "bx", "xc", "bd", "ae"}, "a loop": {"ab", "ba"}, "a loop of three": {"ab", "bx", "xa"}, "a loop and more": {"ab", "ba", "bx", "xc", "cd"}} {
			p := links("abxcde", flows...)
			checkErrorFree(t, what, p)
			b.change(&p)
			if _, e := plan.Check(p); e != b.e {
				t.Errorf("%s, %s: Check = %d, want %d", what, b.what, e, b.e)
			}
			checkFault(t, what+", "+b.what, p, b.e)
		}
	}
}

func checkErrorFree(t *testing.T, what string, p api.Plan) {
	t.Helper()
	if at, e := plan.Check(p); e != api.OK {
		t.Errorf("%s: Check = %d, %d", what, at, e)
	}
	checkTold(t, what, p, second(p))
}

func TestErrorsOfOtherFlows(t *testing.T) { // P6.1: whichever flow has the error, no call for another one goes on
	for i := range maxFlows {
		p := chain(0, 1, 2, 3, 4, 5, 6, 7)
		p.Flows[i].Keepers = 0
		checkFault(t, "a flow of a chain", p, api.ErrArg)
		p = chain(0, 1, 2, 3, 4, 5, 6, 7)
		p.Flows[i].Name = ""
		checkFault(t, "a flow of a chain", p, api.ErrName)
	}
	for i := range maxTopics {
		p := links("abcdefghijklmnop", "ab")
		p.Topics[i].Name = "A"
		checkFault(t, "a topic", p, api.ErrName)
	}
}

func TestErrorsStandAlone(t *testing.T) { // R1: no list beside ErrLoop, whatever could be listed before it
	for _, p := range []api.Plan{links("ab", "ab", "ba"), links("abxyz", "xy", "yz", "ab", "ba"), links("abxyz", "ab", "ba", "xy", "yz"), links("abc", "ab", "ba", "bc")} {
		if l, e := graph.Order(p); len(l) != 0 || e != api.ErrLoop {
			t.Errorf("Order(%v) = %v, %d", p, l, e)
		}
	}
}
