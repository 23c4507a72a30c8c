package plan_test

import (
	"slices"
	"strconv"
	"strings"
	"testing"

	"watershed/api"
	"watershed/plan"
)

// The limits, in the numbers of the document.
const (
	maxName   = 16
	maxTopics = 16
	maxFlows  = 8
	maxParts  = 16
	maxSub    = 8
	maxSteps  = 8
	maxSize   = 1000000
	maxBound  = 1000000
	maxKey    = 16
	maxPlan   = 4096
)

// text1 is Text 1 of the chapter's examples, a line each.
var text1 = []string{
	"topic clicks 4",
	"topic counts 16",
	"flow f from clicks to counts bound 5 readers 2 keepers 3",
	"filter v > 0",
	"key 2",
	"window slide 10 5",
	"agg sum",
	"set v + 1",
}

// plan1 returns what Text 1 says.
func plan1() api.Plan {
	return api.Plan{
		Topics: []api.Topic{{Name: "clicks", Parts: 4}, {Name: "counts", Parts: 16}},
		Flows: []api.Flow{{
			Name: "f", From: "clicks", To: "counts", Bound: 5, Readers: 2, Keepers: 3,
			Pre:  []api.Step{{Kind: api.StepFilter, Text: "v > 0"}, {Kind: api.StepKey, N: 2}},
			Win:  api.Window{Kind: api.WinSlide, Size: 10, Slide: 5},
			Agg:  api.AggSum,
			Post: []api.Step{{Kind: api.StepSet, Text: "v + 1"}},
		}},
	}
}

// wide returns a plan with as many topics and flows as there may be: each flow i reads the first topic and writes the topic i + 2.
func wide() api.Plan {
	var p api.Plan
	for i := range maxTopics {
		p.Topics = append(p.Topics, api.Topic{Name: "t" + strconv.Itoa(i), Parts: 16})
	}
	for i := range maxFlows {
		p.Flows = append(p.Flows, api.Flow{
			Name: "f" + strconv.Itoa(i), From: "t0", To: "t" + strconv.Itoa(i+2), Bound: 7, Readers: 1, Keepers: 1,
			Pre:  []api.Step{{Kind: api.StepFilter, Text: "v"}},
			Win:  api.Window{Kind: api.WinTumble, Size: 10},
			Agg:  api.AggCount,
			Post: []api.Step{{Kind: api.StepSet, Text: "v"}},
		})
	}
	return p
}

// lines returns a text of lines, each with its line feed.
func lines(l ...string) string {
	return strings.Join(l, "\n") + "\n"
}

// same tells whether two plans say the same; an empty list may be nil or not.
func same(a, b api.Plan) bool {
	return slices.Equal(a.Topics, b.Topics) && slices.EqualFunc(a.Flows, b.Flows, sameFlow)
}

func sameFlow(a, b api.Flow) bool {
	head := a.Name == b.Name && a.From == b.From && a.To == b.To && a.Bound == b.Bound && a.Readers == b.Readers && a.Keepers == b.Keepers
	return head && a.Win == b.Win && a.Agg == b.Agg && slices.Equal(a.Pre, b.Pre) && slices.Equal(a.Post, b.Post)
}

func isEmpty(p api.Plan) bool {
	return len(p.Topics) == 0 && len(p.Flows) == 0
}

// checkCheck reports a plan of which Check returns something else, or Text another error than Check.
func checkCheck(t *testing.T, what string, p api.Plan, at int, e api.Errno) {
	t.Helper()
	if gotAt, got := plan.Check(p); gotAt != at || got != e {
		t.Errorf("%s: Check = %d, %d, want %d, %d", what, gotAt, got, at, e)
	}
	if s, got := plan.Text(p); got != e || e != api.OK && s != "" {
		t.Errorf("%s: Text = %q, %d, want %d", what, s, got, e)
	}
}

// checkFault reports a text that does not give this error in this line, and nothing beside it.
func checkFault(t *testing.T, text string, line int, e api.Errno) {
	t.Helper()
	if p, gotLine, got := plan.Parse(text); gotLine != line || got != e || !isEmpty(p) {
		t.Errorf("Parse(%q) = %v, %d, %d, want %d, %d", text, p, gotLine, got, line, e)
	}
}

// checkParse reports a text that does not give this plan.
func checkParse(t *testing.T, text string, want api.Plan) {
	t.Helper()
	if p, line, e := plan.Parse(text); line != 0 || e != api.OK || !same(p, want) {
		t.Errorf("Parse(%q) = %v, %d, %d, want %v", text, p, line, e, want)
	}
}

func TestExamples(t *testing.T) {
	without := func(i int) string { return lines(slices.Delete(slices.Clone(text1), i, i+1)...) }
	checkParse(t, lines(text1...), plan1())
	checkFault(t, without(1), 2, api.ErrTopic)
	checkFault(t, "topic a", 1, api.ErrLine)
	checkFault(t, "topic a 0", 1, api.ErrArg)
	checkFault(t, "topic A 1", 1, api.ErrName)
	checkFault(t, "topics a 1", 1, api.ErrLine)
	checkFault(t, "filter v", 1, api.ErrStep)
	checkFault(t, without(6), 7, api.ErrStep)
	checkFault(t, strings.Replace(lines(text1...), "filter v > 0", "filter v >", 1), 3, api.ErrEnd)
	checkParse(t, "", api.Plan{})
}
