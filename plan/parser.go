package plan

import (
	"strconv"
	"strings"

	"watershed/api"
)

// The forms of lines that do not end with an expression: NAME is any word, NUMBER one of 1 to maxDigits digits.
const (
	topicForm   = "topic NAME NUMBER"
	boundForm   = "flow NAME from NAME to NAME bound NUMBER readers NUMBER keepers NUMBER"
	marksForm   = "flow NAME from NAME to NAME marks readers NUMBER keepers NUMBER"
	keyForm     = "key NUMBER"
	tumbleForm  = "window tumble NUMBER"
	slideForm   = "window slide NUMBER NUMBER"
	sessionForm = "window session NUMBER"
	aggForm     = "agg NAME"
)

const maxDigits = 9

// fault is what stops the parser, as the value of a panic: an error, and the number of the line that has it.
type fault struct {
	line  int
	errno api.Errno
}

// parser takes the lines of a text one by one.
type parser struct {
	plan       api.Plan
	topicLines []int // where each topic begins
	flowLines  []int // where each flow begins
	window     int   // the line `window` that waits for its `agg`; 0: none does
}

// take takes the next line, and panics with the error in it.
func (r *parser) take(line int, s string) {
	words := wordsOf(s)
	if len(words) == 0 || words[0][0] == '#' {
		return
	}
	if !hasForm(words) {
		panic(fault{line, api.ErrLine})
	}
	if !r.allows(words[0]) {
		panic(fault{line, api.ErrStep})
	}
	r.put(line, words, s)
}

// end panics if a line is missing at the end of the text.
func (r *parser) end() {
	if r.window > 0 {
		panic(fault{r.window, api.ErrStep})
	}
}

// allows tells whether a line with this first word may stand where the parser is.
func (r *parser) allows(first string) bool {
	if r.window > 0 || first == "agg" {
		return r.window > 0 && first == "agg"
	}
	switch first {
	case "topic", "flow":
		return true
	case "window":
		return len(r.plan.Flows) > 0 && r.flow().Win.Kind == api.WinNone
	}
	return len(r.plan.Flows) > 0
}

// put does what a line says that has its form and is allowed.
func (r *parser) put(line int, words []string, s string) {
	switch words[0] {
	case "topic":
		r.plan.Topics = append(r.plan.Topics, api.Topic{Name: strings.Clone(words[1]), Parts: numberOf(words[2])})
		r.topicLines = append(r.topicLines, line)
	case "flow":
		r.plan.Flows = append(r.plan.Flows, flowOf(words))
		r.flowLines = append(r.flowLines, line)
	case "filter":
		r.putStep(api.Step{Kind: api.StepFilter, Text: expressionOf(s)})
	case "set":
		r.putStep(api.Step{Kind: api.StepSet, Text: expressionOf(s)})
	case "key":
		r.putStep(api.Step{Kind: api.StepKey, N: numberOf(words[1])})
	case "window":
		r.flow().Win = windowOf(words)
		r.window = line
	case "agg":
		r.flow().Agg = aggOf(words[1])
		r.window = 0
	}
}

// flow returns the flow that began last.
func (r *parser) flow() *api.Flow {
	return &r.plan.Flows[len(r.plan.Flows)-1]
}

// putStep gives the flow that began last a step, before its window or after it.
func (r *parser) putStep(s api.Step) {
	f := r.flow()
	if f.Win.Kind == api.WinNone {
		f.Pre = append(f.Pre, s)
	} else {
		f.Post = append(f.Post, s)
	}
}

// lineOf returns the line of what Check calls by a position: 0 for 0.
func (r *parser) lineOf(position int) int {
	switch {
	case position >= flowPosition:
		return r.flowLines[position-flowPosition]
	case position >= topicPosition:
		return r.topicLines[position-topicPosition]
	}
	return 0
}

// hasForm tells whether the words of a line are one of the forms.
func hasForm(words []string) bool {
	switch words[0] {
	case "topic":
		return fits(words, topicForm)
	case "flow":
		return fits(words, boundForm) || fits(words, marksForm)
	case "filter", "set":
		return len(words) > 1
	case "key":
		return fits(words, keyForm)
	case "window":
		return fits(words, tumbleForm) || fits(words, slideForm) || fits(words, sessionForm)
	case "agg":
		return fits(words, aggForm) && aggOf(words[1]) != 0
	}
	return false
}

// fits tells whether words are those of a form.
func fits(words []string, form string) bool {
	wanted := wordsOf(form)
	if len(words) != len(wanted) {
		return false
	}
	for i, w := range wanted {
		if w == "NUMBER" && !isNumber(words[i]) || w != "NUMBER" && w != "NAME" && w != words[i] {
			return false
		}
	}
	return true
}

// wordsOf returns the words of a line. Blanks alone separate them: a tab is a byte of a word.
func wordsOf(s string) []string {
	return strings.FieldsFunc(s, func(c rune) bool { return c == ' ' })
}

func isNumber(word string) bool {
	if len(word) < 1 || len(word) > maxDigits {
		return false
	}
	for i := range len(word) {
		if word[i] < '0' || word[i] > '9' {
			return false
		}
	}
	return true
}

// numberOf returns the value of a number.
func numberOf(word string) int {
	x, _ := strconv.Atoi(word)
	return x
}

// expressionOf returns what follows the first word of a line. It is a copy, because the plan must not keep the caller's whole text.
func expressionOf(s string) string {
	s = strings.Trim(s, " ")
	return strings.Clone(strings.TrimLeft(s[strings.IndexByte(s, ' '):], " "))
}

// flowOf returns the flow that the words of a line begin.
func flowOf(words []string) api.Flow {
	f := api.Flow{Name: strings.Clone(words[1]), From: strings.Clone(words[3]), To: strings.Clone(words[5]), Bound: -1}
	if words[6] == "bound" {
		f.Bound = numberOf(words[7])
	}
	last := len(words) - 1
	f.Readers, f.Keepers = numberOf(words[last-2]), numberOf(words[last])
	return f
}

// windowOf returns the window that the words of a line say.
func windowOf(words []string) api.Window {
	size := numberOf(words[2])
	switch words[1] {
	case "tumble":
		return api.Window{Kind: api.WinTumble, Size: size}
	case "slide":
		return api.Window{Kind: api.WinSlide, Size: size, Slide: numberOf(words[3])}
	}
	return api.Window{Kind: api.WinSession, Size: size}
}

// aggOf returns the aggregate that a word says: 0 if it says none.
func aggOf(word string) int {
	switch word {
	case "count":
		return api.AggCount
	case "sum":
		return api.AggSum
	case "min":
		return api.AggMin
	case "max":
		return api.AggMax
	}
	return 0
}
