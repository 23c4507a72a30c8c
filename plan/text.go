package plan

import (
	"strconv"

	"watershed/api"
)

// appendLine puts a line behind b.
func appendLine(b []byte, words ...string) []byte {
	for i, w := range words {
		if i > 0 {
			b = append(b, ' ')
		}
		b = append(b, w...)
	}
	return append(b, '\n')
}

func appendTopic(b []byte, t api.Topic) []byte {
	return appendLine(b, "topic", t.Name, strconv.Itoa(t.Parts))
}

// appendFlow puts the lines of a flow behind b.
func appendFlow(b []byte, f api.Flow) []byte {
	bound := "marks"
	if f.Bound >= 0 {
		bound = "bound " + strconv.Itoa(f.Bound)
	}
	b = appendLine(b, "flow", f.Name, "from", f.From, "to", f.To, bound, "readers", strconv.Itoa(f.Readers), "keepers", strconv.Itoa(f.Keepers))
	b = appendSteps(b, f.Pre)
	if f.Win.Kind != api.WinNone {
		b = appendWindow(b, f.Win)
		b = appendLine(b, "agg", aggWord(f.Agg))
	}
	return appendSteps(b, f.Post)
}

func appendSteps(b []byte, steps []api.Step) []byte {
	for _, s := range steps {
		switch s.Kind {
		case api.StepFilter:
			b = appendLine(b, "filter", s.Text)
		case api.StepSet:
			b = appendLine(b, "set", s.Text)
		case api.StepKey:
			b = appendLine(b, "key", strconv.Itoa(s.N))
		}
	}
	return b
}

func appendWindow(b []byte, w api.Window) []byte {
	size := strconv.Itoa(w.Size)
	switch w.Kind {
	case api.WinTumble:
		return appendLine(b, "window", "tumble", size)
	case api.WinSlide:
		return appendLine(b, "window", "slide", size, strconv.Itoa(w.Slide))
	}
	return appendLine(b, "window", "session", size)
}

// aggWord returns the word for an aggregate.
func aggWord(agg int) string {
	switch agg {
	case api.AggCount:
		return "count"
	case api.AggSum:
		return "sum"
	case api.AggMin:
		return "min"
	}
	return "max"
}
