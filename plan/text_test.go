package plan_test

import (
	"strings"
	"testing"

	"watershed/api"
	"watershed/plan"
)

// checkText reports a plan with another text.
func checkText(t *testing.T, p api.Plan, want string) {
	t.Helper()
	if s, e := plan.Text(p); s != want || e != api.OK {
		t.Errorf("Text(%v) = %q, %d, want %q", p, s, e, want)
	}
}

// checkFlowText reports whether the plan of head, with its flow changed, has another text.
func checkFlowText(t *testing.T, want string, change func(f *api.Flow)) {
	t.Helper()
	p := headPlan()
	change(&p.Flows[0])
	checkText(t, p, want)
}

func TestTexts(t *testing.T) { // P5.3: single blanks, and a line feed after each line
	checkText(t, api.Plan{}, "")
	checkText(t, plan1(), lines(text1...))
	checkText(t, api.Plan{Topics: []api.Topic{{Name: "a", Parts: 1}, {Name: "-", Parts: 16}}}, "topic a 1\ntopic - 16\n")
	checkText(t, wide(), plainText(wide()))
	checkText(t, headPlan(), head)
}

func TestTextsOfFlows(t *testing.T) { // P5.3
	topics := "topic a 4\ntopic b 16\n"
	for n, want := range map[int]string{-1: "marks", 0: "bound 0", 1: "bound 1", maxBound: "bound 1000000"} {
		checkFlowText(t, topics+"flow f from a to b "+want+" readers 2 keepers 3\n", func(f *api.Flow) { f.Bound = n })
	}
	checkFlowText(t, topics+"flow f from a to b bound 5 readers 4 keepers 1\n", func(f *api.Flow) { f.Readers, f.Keepers = 4, 1 })
	checkFlowText(t, head+"set v\nfilter v  <  5\nkey 0\nkey 16\n", func(f *api.Flow) {
		f.Pre = []api.Step{{Kind: api.StepSet, Text: "v"}, {Kind: api.StepFilter, Text: "v  <  5"}, {Kind: api.StepKey}, {Kind: api.StepKey, N: 16}}
	})
	for want, w := range map[string]api.Window{"tumble 1": {Kind: api.WinTumble, Size: 1}, "tumble 1000000": {Kind: api.WinTumble, Size: maxSize}, "slide 32 2": {Kind: api.WinSlide, Size: 32, Slide: 2}, "session 7": {Kind: api.WinSession, Size: 7}} {
		for word, agg := range map[string]int{"count": 1, "sum": 2, "min": 3, "max": 4} {
			checkFlowText(t, head+"window "+want+"\nagg "+word+"\n", func(f *api.Flow) { f.Win, f.Agg = w, agg })
			checkFlowText(t, head+"filter n\nwindow "+want+"\nagg "+word+"\nset 1\nfilter t\n", func(f *api.Flow) {
				f.Pre, f.Win, f.Agg = []api.Step{{Kind: api.StepFilter, Text: "n"}}, w, agg
				f.Post = []api.Step{{Kind: api.StepSet, Text: "1"}, {Kind: api.StepFilter, Text: "t"}}
			})
		}
	}
}

func TestTextsOfPlansWithErrors(t *testing.T) { // P5.3: the error of Check, and no text
	for _, b := range breaches {
		for i := range maxFlows {
			p := wide()
			b.change(&p, i)
			if s, e := plan.Text(p); s != "" || e != b.e {
				t.Errorf("%s: Text = %q, %d, want %d", b.what, s, e, b.e)
			}
		}
	}
	if s, e := plan.Text(api.Plan{Topics: make([]api.Topic, 17)}); s != "" || e != api.ErrMany {
		t.Errorf("Text = %q, %d", s, e)
	}
}

func TestLongTexts(t *testing.T) { // P5.3: a plan may have more text than Parse takes
	p := wide()
	for i := range p.Flows {
		p.Flows[i].Pre = some(maxSteps)
		for k := range p.Flows[i].Pre {
			p.Flows[i].Pre[k].Text = "v" + strings.Repeat(" ", 150) + "+ 1"
		}
	}
	checkCheck(t, "a long plan", p, 0, api.OK)
	want := plainText(p)
	checkText(t, p, want)
	checkFault(t, want, 0, api.ErrLong)
}
