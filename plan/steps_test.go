package plan_test

import (
	"strings"
	"testing"

	"watershed/api"
)

// some returns n steps without an error.
func some(n int) []api.Step {
	var l []api.Step
	for range n {
		l = append(l, api.Step{Kind: api.StepSet, Text: "v"})
	}
	return l
}

// checkStep reports a step that has another error, at each place of Pre and of Post.
func checkStep(t *testing.T, s api.Step, pre, post api.Errno) {
	t.Helper()
	for n := 1; n <= maxSteps; n++ {
		for i := range n {
			l := some(n)
			l[i] = s
			checkFlow1(t, "Pre", pre, func(f *api.Flow) { f.Pre = l })
			checkFlow1(t, "Pre alone", pre, func(f *api.Flow) { f.Pre, f.Win, f.Agg, f.Post = l, api.Window{}, 0, nil })
			checkFlow1(t, "Post", post, func(f *api.Flow) { f.Post = l })
		}
	}
}

func TestNumberOfSteps(t *testing.T) { // P5.1: at most 8 of Pre and 8 of Post
	for n := range 20 {
		e := errnoIf(n <= maxSteps, api.ErrMany)
		checkFlow1(t, "Pre", e, func(f *api.Flow) { f.Pre = some(n) })
		checkFlow1(t, "Pre, no Post", e, func(f *api.Flow) { f.Pre, f.Post = some(n), nil })
		checkFlow1(t, "Pre alone", e, func(f *api.Flow) { f.Pre, f.Win, f.Agg, f.Post = some(n), api.Window{}, 0, nil })
		checkFlow1(t, "Post", e, func(f *api.Flow) { f.Post = some(n) })
		checkFlow1(t, "Post alone", e, func(f *api.Flow) { f.Pre, f.Post = nil, some(n) })
		checkFlow1(t, "both", e, func(f *api.Flow) { f.Pre, f.Post = some(n), some(n) })
	}
	checkFlow1(t, "a million steps", api.ErrMany, func(f *api.Flow) { f.Pre = make([]api.Step, 1000000) })
}

func TestPostWithoutAWindow(t *testing.T) { // P5.1
	for n := range 12 {
		e := errnoIf(n == 0, api.ErrStep)
		if n > maxSteps {
			e = api.ErrMany
		}
		checkFlow1(t, "Post", e, func(f *api.Flow) { f.Win, f.Agg, f.Post = api.Window{}, 0, some(n) })
	}
}

func TestKindsOfSteps(t *testing.T) { // P5.1
	checkStep(t, api.Step{Kind: api.StepFilter, Text: "v > 1"}, api.OK, api.OK)
	checkStep(t, api.Step{Kind: api.StepSet, Text: "v > 1"}, api.OK, api.OK)
	checkStep(t, api.Step{Kind: api.StepKey, N: 1}, api.OK, api.ErrStep)
	for _, kind := range append([]int{-1, 0, 4, 5}, outside...) {
		for _, s := range []api.Step{{}, {Text: "v"}, {N: 1}, {Text: "v +"}} {
			s.Kind = kind
			checkStep(t, s, api.ErrStep, api.ErrStep)
		}
	}
}

func TestNumbersOfSteps(t *testing.T) { // P5.1: 0 with an expression, 0 to 16 of a key
	for _, n := range append([]int{-2, -1, 0, 1, 2, 15, 16, 17, 18}, outside...) {
		e := errnoIf(n == 0, api.ErrStep)
		checkStep(t, api.Step{Kind: api.StepFilter, Text: "v", N: n}, e, e)
		checkStep(t, api.Step{Kind: api.StepSet, Text: "v", N: n}, e, e)
		checkStep(t, api.Step{Kind: api.StepKey, N: n}, errnoIf(n >= 0 && n <= maxKey, api.ErrStep), api.ErrStep)
	}
	for _, text := range []string{"v", " ", "v +", "0", strings.Repeat("v", 300)} {
		checkStep(t, api.Step{Kind: api.StepKey, Text: text}, api.ErrStep, api.ErrStep)
		checkStep(t, api.Step{Kind: api.StepKey, N: 3, Text: text}, api.ErrStep, api.ErrStep)
	}
}

func TestTextsOfSteps(t *testing.T) { // P5.1: an expression without blanks at its ends; layer 4's error if it is none
	for text, e := range map[string]api.Errno{
		"v": api.OK, "v+1": api.OK, "v + 1": api.OK, "v  +   1": api.OK, "(  v )": api.OK, "- 1": api.OK,
		" v": api.ErrStep, "v ": api.ErrStep, " v ": api.ErrStep, "  v + 1": api.ErrStep, "v + 1  ": api.ErrStep, " ": api.ErrStep, "  ": api.ErrStep, " v +": api.ErrStep, "v + ": api.ErrStep, "# ": api.ErrStep,
		" " + strings.Repeat("v", 300): api.ErrStep, strings.Repeat(" ", 300): api.ErrStep,
		"": api.ErrEnd, "v +": api.ErrEnd, "(v": api.ErrEnd, "-": api.ErrEnd,
		"x": api.ErrWord, "v v": api.ErrWord, "v = 1": api.ErrWord, "#": api.ErrWord, "\tv": api.ErrWord, "v\t": api.ErrWord, "v\n": api.ErrWord, "\nv": api.ErrWord, "v\n+ 1": api.ErrWord, "v\r": api.ErrWord, "\u00a0v": api.ErrWord,
		strings.Repeat("-", 63) + "v": api.OK, strings.Repeat("-", 64) + "v": api.ErrMany,
		"v" + strings.Repeat(" ", 196) + "+ 1": api.OK, "v" + strings.Repeat(" ", 197) + "+ 1": api.ErrLong, strings.Repeat("v", 201): api.ErrLong, strings.Repeat("(", 1<<20): api.ErrLong,
	} {
		checkStep(t, api.Step{Kind: api.StepFilter, Text: text}, e, e)
		checkStep(t, api.Step{Kind: api.StepSet, Text: text}, e, e)
	}
}
