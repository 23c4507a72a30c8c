package plan

import (
	"slices"
	"strings"

	"watershed/api"
	"watershed/expr"
)

const maxPanes = 16 // windows of one record: a greater Size needs a greater Slide

// checkTopic returns the first error of the topic at a place.
func checkTopic(topics []api.Topic, place int) api.Errno {
	t := topics[place]
	switch {
	case !isName(t.Name):
		return api.ErrName
	case partsOf(topics[:place], t.Name) > 0:
		return api.ErrTwice
	case t.Parts < 1 || t.Parts > api.MaxParts:
		return api.ErrArg
	}
	return api.OK
}

// checkFlow returns the first error of the flow at a place of a plan whose topics have none.
func checkFlow(p api.Plan, place int) api.Errno {
	f, earlier := p.Flows[place], p.Flows[:place]
	switch {
	case !isName(f.Name):
		return api.ErrName
	case slices.ContainsFunc(earlier, func(g api.Flow) bool { return g.Name == f.Name }):
		return api.ErrTwice
	case !areEnds(p.Topics, f) || writes(earlier, f.To):
		return api.ErrTopic
	case !isBound(p.Flows, f) || !areCounts(p.Topics, f) || !isWindow(f.Win) || !isAgg(f.Win, f.Agg):
		return api.ErrArg
	case len(f.Pre) > api.MaxSteps || len(f.Post) > api.MaxSteps:
		return api.ErrMany
	case f.Win.Kind == api.WinNone && len(f.Post) > 0:
		return api.ErrStep
	}
	return checkSteps(f)
}

func isName(s string) bool {
	if len(s) < 1 || len(s) > api.MaxName {
		return false
	}
	for i := range len(s) {
		if !isNameByte(s[i]) {
			return false
		}
	}
	return true
}

func isNameByte(c byte) bool {
	return 'a' <= c && c <= 'z' || '0' <= c && c <= '9' || c == '-'
}

// partsOf returns the number of partitions of a topic by its name: 0 if there is none among topics without errors.
func partsOf(topics []api.Topic, name string) int {
	for _, t := range topics {
		if t.Name == name {
			return t.Parts
		}
	}
	return 0
}

// writes tells whether one of flows writes a topic.
func writes(flows []api.Flow, topic string) bool {
	return slices.ContainsFunc(flows, func(f api.Flow) bool { return f.To == topic })
}

// areEnds tells whether a flow may read From and write To, as far as topics tell.
func areEnds(topics []api.Topic, f api.Flow) bool {
	return partsOf(topics, f.From) > 0 && partsOf(topics, f.To) == api.Groups && f.From != f.To
}

// isBound tells whether a flow's Bound may stand among flows: what a flow writes has marks of its own, which alone count.
func isBound(flows []api.Flow, f api.Flow) bool {
	return f.Bound == -1 || f.Bound >= 0 && f.Bound <= api.MaxBound && !writes(flows, f.From)
}

// areCounts tells whether there may be as many readers and keepers as a flow has.
func areCounts(topics []api.Topic, f api.Flow) bool {
	readers := min(api.MaxSub, partsOf(topics, f.From))
	return f.Readers >= 1 && f.Readers <= readers && f.Keepers >= 1 && f.Keepers <= api.MaxSub
}

func isWindow(w api.Window) bool {
	sized := w.Size >= 1 && w.Size <= api.MaxSize
	switch w.Kind {
	case api.WinNone:
		return w.Size == 0 && w.Slide == 0
	case api.WinTumble, api.WinSession:
		return sized && w.Slide == 0
	case api.WinSlide:
		return sized && w.Slide >= 1 && w.Slide <= w.Size && w.Size <= maxPanes*w.Slide
	}
	return false
}

// isAgg tells whether an aggregate may stand with a window.
func isAgg(w api.Window, agg int) bool {
	if w.Kind == api.WinNone {
		return agg == 0
	}
	return agg >= api.AggCount && agg <= api.AggMax
}

// checkSteps returns the first error of a flow's steps.
func checkSteps(f api.Flow) api.Errno {
	for _, s := range f.Pre {
		if e := checkStep(s); e != api.OK {
			return e
		}
	}
	for _, s := range f.Post {
		// The keepers own groups of keys: behind the window a record must stay in its group.
		if s.Kind == api.StepKey {
			return api.ErrStep
		}
		if e := checkStep(s); e != api.OK {
			return e
		}
	}
	return api.OK
}

// checkStep returns the first error of a step by itself.
func checkStep(s api.Step) api.Errno {
	switch s.Kind {
	case api.StepKey:
		if s.N < 0 || s.N > api.MaxKey || s.Text != "" {
			return api.ErrStep
		}
		return api.OK
	case api.StepFilter, api.StepSet:
		if s.N != 0 || strings.HasPrefix(s.Text, " ") || strings.HasSuffix(s.Text, " ") {
			return api.ErrStep
		}
		_, _, e := expr.Parse(s.Text)
		return e
	}
	return api.ErrStep
}
