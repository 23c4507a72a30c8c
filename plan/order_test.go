package plan_test

import (
	"strconv"
	"testing"

	"watershed/api"
)

// breach gives a flow of wide an error.
type breach struct {
	what   string
	e      api.Errno
	change func(p *api.Plan, i int)
}

// breaches are in the order of the checks.
var breaches = []breach{
	{"name", api.ErrName, func(p *api.Plan, i int) { p.Flows[i].Name = "F" }},
	{"twice", api.ErrTwice, func(p *api.Plan, i int) { p.Flows[i].Name = p.Flows[(i+7)%8].Name }},
	{"topic", api.ErrTopic, func(p *api.Plan, i int) { p.Flows[i].To = "none" }},
	{"number", api.ErrArg, func(p *api.Plan, i int) { p.Flows[i].Keepers = 9 }},
	{"many", api.ErrMany, func(p *api.Plan, i int) { p.Flows[i].Post = some(9) }},
	{"no window", api.ErrStep, func(p *api.Plan, i int) { p.Flows[i].Win, p.Flows[i].Agg = api.Window{}, 0 }},
	{"first expression", api.ErrEnd, func(p *api.Plan, i int) { p.Flows[i].Pre[0].Text = "v +" }},
	{"second step", api.ErrStep, func(p *api.Plan, i int) {
		p.Flows[i].Pre = append(p.Flows[i].Pre, api.Step{Kind: 9})
	}},
	{"first expression of Post", api.ErrWord, func(p *api.Plan, i int) { p.Flows[i].Post[0].Text = "#" }},
	{"last step of Post", api.ErrStep, func(p *api.Plan, i int) {
		p.Flows[i].Post = append(p.Flows[i].Post, api.Step{Kind: api.StepKey})
	}},
}

func TestPlacesOfTopics(t *testing.T) { // P5.1: the first, all between, the last
	for i := range maxTopics {
		p := wide()
		p.Topics[i].Name = "T"
		checkCheck(t, "a name", p, i+1, api.ErrName)
		p = wide()
		p.Topics[i].Parts = 17
		checkCheck(t, "a number", p, i+1, api.ErrArg)
	}
}

func TestPlacesOfFlows(t *testing.T) { // P5.1: the first, all between, the last
	for i := range maxFlows {
		for k, b := range breaches {
			p := wide()
			b.change(&p, i)
			if k == 1 && i == 0 { // it is the last flow that has the name of an earlier one
				checkCheck(t, b.what, p, 108, b.e)
				continue
			}
			checkCheck(t, b.what, p, 101+i, b.e)
		}
	}
}

func TestTheFirstErrorOfAFlow(t *testing.T) { // P5.1: of each two errors, neighbours in the order of the checks or not
	for i := 1; i < maxFlows; i++ {
		for k, first := range breaches {
			for _, second := range breaches[k+1:] {
				if first.what == "name" && second.what == "twice" { // a name has one of them only
					continue
				}
				p := wide()
				second.change(&p, i) // first the later one: the earlier one may spoil its place
				first.change(&p, i)
				checkCheck(t, first.what+" and "+second.what, p, 101+i, first.e)
			}
		}
	}
}

func TestTheFirstErrorOfATopic(t *testing.T) { // P5.1
	for i := range maxTopics {
		p := wide()
		p.Topics[i] = api.Topic{Name: "T", Parts: 0}
		checkCheck(t, "a name and a number", p, i+1, api.ErrName)
		if i > 0 {
			p.Topics[i] = api.Topic{Name: "t0", Parts: 0}
			checkCheck(t, "twice and a number", p, i+1, api.ErrTwice)
		}
	}
}

func TestEarlierPlacesComeFirst(t *testing.T) { // P5.1: the last error of an earlier one before the first error of a later one
	for i := range maxTopics {
		for j := range i {
			p := wide()
			p.Topics[j].Parts = 0
			p.Topics[i].Name = "T"
			checkCheck(t, "two topics", p, j+1, api.ErrArg)
		}
	}
	last := breaches[len(breaches)-1]
	for i := range maxFlows {
		for j := range i {
			p := wide()
			last.change(&p, j)
			p.Flows[i].Name = "F"
			checkCheck(t, "two flows", p, 101+j, last.e)
		}
	}
	for i := range maxTopics {
		p := wide()
		p.Topics[i].Parts = 0
		p.Flows[0].Name = "F"
		checkCheck(t, "a topic and a flow", p, i+1, api.ErrArg)
	}
}

func TestTheSameWrongNameTwice(t *testing.T) { // P5.1: the earlier one is wrong already
	p := wide()
	p.Topics[3].Name, p.Topics[5].Name = "T", "T"
	checkCheck(t, "topics", p, 4, api.ErrName)
	p = wide()
	p.Flows[3].Name, p.Flows[5].Name = "F", "F"
	checkCheck(t, "flows", p, 104, api.ErrName)
}

func TestTooManyComesFirst(t *testing.T) { // P5.1: before whatever else is wrong
	for k, b := range breaches {
		p := wide()
		b.change(&p, 2)
		p.Topics[0].Name = "T"
		p.Topics = append(p.Topics, api.Topic{})
		checkCheck(t, b.what+", topics", p, 0, api.ErrMany)
		p = wide()
		b.change(&p, 2)
		p.Topics[k].Parts = 0
		p.Flows = append(p.Flows, api.Flow{})
		checkCheck(t, b.what+", flows", p, 0, api.ErrMany)
	}
}

func TestErrorsOfSteps(t *testing.T) { // P5.1: from step to step; of one step ErrStep first, and then layer 4's error
	bad := []struct {
		s api.Step
		e api.Errno
	}{
		{api.Step{Kind: api.StepFilter, Text: "v +"}, api.ErrEnd},
		{api.Step{Kind: api.StepSet, Text: "#"}, api.ErrWord},
		{api.Step{Kind: 7}, api.ErrStep},
		{api.Step{Kind: api.StepFilter, Text: " v +"}, api.ErrStep},
		{api.Step{Kind: api.StepSet, Text: "#", N: 1}, api.ErrStep},
		{api.Step{Kind: api.StepKey, N: 17, Text: "v"}, api.ErrStep},
	}
	for _, a := range bad {
		for _, b := range bad {
			for i := range maxSteps {
				for j := i + 1; j < maxSteps; j++ {
					l := some(maxSteps)
					l[i], l[j] = a.s, b.s
					checkFlow1(t, "Pre", a.e, func(f *api.Flow) { f.Pre = l })
					checkFlow1(t, "Post", a.e, func(f *api.Flow) { f.Post = l })
				}
			}
			pre, post := some(maxSteps), some(maxSteps)
			pre[maxSteps-1], post[0] = a.s, b.s
			checkFlow1(t, "Pre before Post", a.e, func(f *api.Flow) { f.Pre, f.Post = pre, post })
		}
	}
}

func TestOrderOfManyPlans(t *testing.T) { // P5.1: against the second reading
	count := map[api.Errno]int{}
	for seed := range uint64(60000) {
		p := somePlan(seed)
		at, e := firstFault(p)
		checkCheck(t, "plan "+strconv.FormatUint(seed, 10), p, at, e)
		count[e]++
	}
	for _, e := range []api.Errno{api.OK, api.ErrMany, api.ErrName, api.ErrTwice, api.ErrArg, api.ErrTopic, api.ErrStep, api.ErrEnd, api.ErrWord, api.ErrLong} {
		if count[e] < 50 {
			t.Errorf("%d plans with the error %d", count[e], e)
		}
	}
}
