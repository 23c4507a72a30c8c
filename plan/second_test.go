package plan_test

import (
	"cmp"
	"math/rand/v2"
	"regexp"
	"slices"
	"strconv"
	"strings"

	"watershed/api"
	"watershed/expr"
)

// This file reads the chapter a second time, by other means than the program's, to hold arbitrary plans and texts against it.

var nameForm = regexp.MustCompile(`^[a-z0-9-]{1,16}$`)

// violation is an error of a plan: where it is, and the how-manieth check finds it there.
type violation struct {
	at, rank int
	e        api.Errno
}

// firstFault finds all errors of a plan and returns the first one.
func firstFault(p api.Plan) (int, api.Errno) {
	var all []violation
	note := func(bad bool, at, rank int, e api.Errno) {
		if bad {
			all = append(all, violation{at, rank, e})
		}
	}
	note(len(p.Topics) > maxTopics || len(p.Flows) > maxFlows, 0, 0, api.ErrMany)
	parts := map[string]int{}
	for i, x := range p.Topics {
		_, twice := parts[x.Name]
		note(!nameForm.MatchString(x.Name), i+1, 1, api.ErrName)
		note(twice, i+1, 2, api.ErrTwice)
		note(x.Parts < 1 || x.Parts > maxParts, i+1, 3, api.ErrArg)
		parts[x.Name] = x.Parts
	}
	writers := map[string][]int{}
	named := map[string][]int{}
	for i, f := range p.Flows {
		writers[f.To] = append(writers[f.To], i)
		named[f.Name] = append(named[f.Name], i)
	}
	for i, f := range p.Flows {
		_, from := parts[f.From]
		note(!nameForm.MatchString(f.Name), 101+i, 1, api.ErrName)
		note(named[f.Name][0] < i, 101+i, 2, api.ErrTwice)
		note(!from || parts[f.To] != 16 || f.To == f.From || writers[f.To][0] < i, 101+i, 3, api.ErrTopic)
		note(f.Bound < -1 || f.Bound > maxBound || len(writers[f.From]) > 0 && f.Bound != -1, 101+i, 4, api.ErrArg)
		note(f.Readers < 1 || f.Readers > maxSub || f.Readers > parts[f.From] || f.Keepers < 1 || f.Keepers > maxSub, 101+i, 4, api.ErrArg)
		note(!windowMayBe(f.Win, f.Agg), 101+i, 4, api.ErrArg)
		note(len(f.Pre) > maxSteps || len(f.Post) > maxSteps, 101+i, 5, api.ErrMany)
		note(len(f.Post) > 0 && f.Win.Kind == api.WinNone, 101+i, 6, api.ErrStep)
		for k, s := range slices.Concat(f.Pre, f.Post) {
			note(!stepMayBe(s, k >= len(f.Pre)), 101+i, 7+2*k, api.ErrStep)
			_, _, e := expr.Parse(s.Text)
			note(e != api.OK && s.Kind != api.StepKey, 101+i, 8+2*k, e)
		}
	}
	if len(all) == 0 {
		return 0, api.OK
	}
	first := slices.MinFunc(all, func(a, b violation) int { return cmp.Or(a.at-b.at, a.rank-b.rank) })
	return first.at, first.e
}

func windowMayBe(w api.Window, agg int) bool {
	if w.Kind == api.WinNone {
		return w == api.Window{} && agg == 0
	}
	slides := w.Slide == 0
	if w.Kind == api.WinSlide {
		slides = 1 <= w.Slide && w.Slide <= w.Size && (w.Size+15)/16 <= w.Slide
	}
	return (w.Kind == api.WinTumble || w.Kind == api.WinSlide || w.Kind == api.WinSession) && 0 < w.Size && w.Size <= maxSize && slides && 0 < agg && agg < 5
}

func stepMayBe(s api.Step, post bool) bool {
	if s.Kind == api.StepKey {
		return !post && s.Text == "" && 0 <= s.N && s.N <= maxKey
	}
	return (s.Kind == api.StepFilter || s.Kind == api.StepSet) && s.N == 0 && strings.Trim(s.Text, " ") == s.Text
}

// The forms of lines; one of the groups is the expression.
var (
	idleForm    = regexp.MustCompile(`^ *(#.*)?$`)
	topicForm   = regexp.MustCompile(`^ *topic +([^ ]+) +([0-9]{1,9}) *$`)
	flowForm    = regexp.MustCompile(`^ *flow +([^ ]+) +from +([^ ]+) +to +([^ ]+) +(?:marks|bound +([0-9]{1,9})) +readers +([0-9]{1,9}) +keepers +([0-9]{1,9}) *$`)
	stepForm    = regexp.MustCompile(`^ *(filter|set) +([^ ]|[^ ].*[^ ]) *$`)
	keyForm     = regexp.MustCompile(`^ *key +([0-9]{1,9}) *$`)
	windowForm  = regexp.MustCompile(`^ *window +(tumble|session) +([0-9]{1,9}) *$`)
	slidingForm = regexp.MustCompile(`^ *window +(slide) +([0-9]{1,9}) +([0-9]{1,9}) *$`)
	aggForm     = regexp.MustCompile(`^ *agg +(count|sum|min|max) *$`)
)

// found is a line that is not ignored: its number, which form it has, its groups.
type found struct {
	line   int
	form   *regexp.Regexp
	groups []string
}

func foundIn(line int, s string) found {
	for _, form := range []*regexp.Regexp{topicForm, flowForm, stepForm, keyForm, windowForm, slidingForm, aggForm} {
		if groups := form.FindStringSubmatch(s); groups != nil {
			return found{line, form, groups}
		}
	}
	return found{line: line}
}

// secondParse reads a text.
func secondParse(text string) (api.Plan, int, api.Errno) {
	if len(text) > maxPlan {
		return api.Plan{}, 0, api.ErrLong
	}
	var l []found
	for i, s := range strings.Split(text, "\n") {
		if !idleForm.MatchString(s) {
			l = append(l, foundIn(i+1, s))
		}
	}
	for i, x := range l {
		if x.form == nil {
			return api.Plan{}, x.line, api.ErrLine
		}
		if !mayStand(l[:i], x) {
			return api.Plan{}, x.line, api.ErrStep
		}
	}
	if n := len(l); n > 0 && isWindowLine(l[n-1]) {
		return api.Plan{}, l[n-1].line, api.ErrStep
	}
	p, where := planOf(l)
	if at, e := firstFault(p); e != api.OK {
		return api.Plan{}, where[at], e
	}
	return p, 0, api.OK
}

func isWindowLine(x found) bool { return x.form == windowForm || x.form == slidingForm }

// mayStand tells whether a line may follow these.
func mayStand(ahead []found, x found) bool {
	if n := len(ahead); (n > 0 && isWindowLine(ahead[n-1])) != (x.form == aggForm) {
		return false
	}
	windows, flows := 0, 0
	for _, y := range ahead {
		if y.form == flowForm {
			flows++
			windows = 0
		}
		if isWindowLine(y) {
			windows++
		}
	}
	if x.form == topicForm || x.form == flowForm {
		return true
	}
	return flows > 0 && !(isWindowLine(x) && windows > 0)
}

// planOf returns what lines say, and the line of each position of Check.
func planOf(l []found) (api.Plan, map[int]int) {
	var p api.Plan
	where := map[int]int{}
	num := func(s string) int {
		x, _ := strconv.Atoi(s)
		return x
	}
	for _, x := range l {
		g := x.groups
		var f *api.Flow
		var s api.Step
		if n := len(p.Flows); n > 0 {
			f = &p.Flows[n-1]
		}
		switch x.form {
		case topicForm:
			p.Topics = append(p.Topics, api.Topic{Name: g[1], Parts: num(g[2])})
			where[len(p.Topics)] = x.line
		case flowForm:
			bound := num(g[4])
			if g[4] == "" {
				bound = -1
			}
			p.Flows = append(p.Flows, api.Flow{Name: g[1], From: g[2], To: g[3], Bound: bound, Readers: num(g[5]), Keepers: num(g[6])})
			where[100+len(p.Flows)] = x.line
		case stepForm:
			s = api.Step{Kind: map[string]int{"filter": 1, "set": 2}[g[1]], Text: g[2]}
		case keyForm:
			s = api.Step{Kind: 3, N: num(g[1])}
		case windowForm, slidingForm:
			f.Win = api.Window{Kind: map[string]int{"tumble": 1, "slide": 2, "session": 3}[g[1]], Size: num(g[2])}
			if x.form == slidingForm {
				f.Win.Slide = num(g[3])
			}
		case aggForm:
			f.Agg = map[string]int{"count": 1, "sum": 2, "min": 3, "max": 4}[g[1]]
		}
		if s.Kind > 0 && f.Agg > 0 {
			f.Post = append(f.Post, s)
		} else if s.Kind > 0 {
			f.Pre = append(f.Pre, s)
		}
	}
	return p, where
}

// oneOf returns one of some values.
func oneOf[T any](s *rand.Rand, l ...T) T {
	return l[s.IntN(len(l))]
}

// someSteps returns steps without an error.
func someSteps(s *rand.Rand, n int, post bool) []api.Step {
	var l []api.Step
	for range n {
		kind := oneOf(s, api.StepFilter, api.StepSet, api.StepKey)
		if kind == api.StepKey && !post {
			l = append(l, api.Step{Kind: kind, N: s.IntN(maxKey + 1)})
			continue
		}
		text := oneOf(s, "v", "v + 1", "v  > 0", "t%10==0", "!(n < 2) && v", "-v", "(v)", "0")
		l = append(l, api.Step{Kind: oneOf(s, api.StepFilter, api.StepSet), Text: text})
	}
	return l
}

// someRightPlan returns a plan without an error.
func someRightPlan(s *rand.Rand) api.Plan {
	var p api.Plan
	flows := s.IntN(5)
	if s.IntN(10) == 0 {
		flows = s.IntN(maxFlows + 1)
	}
	name := func(c string, i int) string {
		return c + strconv.Itoa(i) + strings.Repeat("-", s.IntN(14))
	}
	for i := range flows {
		p.Topics = append(p.Topics, api.Topic{Name: name("t", i), Parts: 16})
	}
	for i := range s.IntN(maxTopics - flows) {
		p.Topics = append(p.Topics, api.Topic{Name: name("u", i), Parts: 1 + s.IntN(maxParts)})
	}
	if len(p.Topics) < 2 {
		return p
	}
	for i := range flows {
		from := s.IntN(len(p.Topics))
		if from == i {
			from = (from + 1) % len(p.Topics)
		}
		f := api.Flow{Name: name("f", i), From: p.Topics[from].Name, To: p.Topics[i].Name, Bound: -1, Keepers: 1 + s.IntN(maxSub)}
		if from >= flows && s.IntN(3) > 0 {
			f.Bound = oneOf(s, 0, 5, 1000, maxBound)
		}
		f.Readers = 1 + s.IntN(min(maxSub, p.Topics[from].Parts))
		f.Pre = someSteps(s, s.IntN(oneOf(s, 3, 3, maxSteps+1)), false)
		f.Win = oneOf(s, api.Window{}, api.Window{Kind: 1, Size: oneOf(s, 1, 10, maxSize)}, api.Window{Kind: 2, Size: 16, Slide: 1 + s.IntN(16)}, api.Window{Kind: 3, Size: oneOf(s, 1, 10, maxSize)})
		if f.Win.Kind > 0 {
			f.Agg = 1 + s.IntN(4)
			f.Post = someSteps(s, s.IntN(oneOf(s, 3, 3, maxSteps+1)), true)
		}
		p.Flows = append(p.Flows, f)
	}
	order := s.Perm(len(p.Topics))
	mixed := make([]api.Topic, len(order))
	for i, k := range order {
		mixed[k] = p.Topics[i]
	}
	p.Topics = mixed
	return p
}

// somePlan returns a plan with none, one or several errors.
func somePlan(seed uint64) api.Plan {
	s := rand.New(rand.NewPCG(seed, 51))
	p := someRightPlan(s)
	for range s.IntN(4) {
		harm(s, &p)
	}
	return p
}

// harm changes one thing of a plan.
func harm(s *rand.Rand, p *api.Plan) {
	number := oneOf(s, -2, -1, 0, 1, 4, 5, 8, 9, 16, 17, maxSize, maxSize+1)
	name := oneOf(s, "", "a", "A", "t0", "f0", strings.Repeat("a", 16), strings.Repeat("a", 17), "a b")
	switch k := s.IntN(10); {
	case k == 0 && s.IntN(3) == 0:
		p.Topics = append(p.Topics, make([]api.Topic, maxTopics)...)
	case k == 0 && s.IntN(2) == 0:
		p.Flows = append(p.Flows, make([]api.Flow, maxFlows)...)
	case k <= 2 && len(p.Topics) > 0:
		x := &p.Topics[s.IntN(len(p.Topics))]
		*x = oneOf(s, api.Topic{Name: name, Parts: x.Parts}, api.Topic{Name: x.Name, Parts: number}, api.Topic{Name: p.Topics[0].Name, Parts: 16})
	case len(p.Flows) > 0:
		harmFlow(s, p, &p.Flows[s.IntN(len(p.Flows))], number, name)
	}
}

func harmFlow(s *rand.Rand, p *api.Plan, f *api.Flow, number int, name string) {
	switch s.IntN(12) {
	case 0:
		f.Name = oneOf(s, name, p.Flows[0].Name)
	case 1:
		f.From = oneOf(s, name, p.Flows[0].To, f.To)
	case 2:
		f.To = oneOf(s, name, p.Flows[0].To, f.From)
	case 3:
		f.Bound = number
	case 4:
		f.Readers = number
	case 5:
		f.Keepers = number
	case 6:
		f.Win.Kind = oneOf(s, 0, 1, 2, 3, 4, -1)
	case 7:
		f.Win.Size = number
	case 8:
		f.Win.Slide = number
	case 9:
		f.Agg = number
	case 10:
		f.Pre = harmSteps(s, f.Pre, number)
	case 11:
		f.Post = harmSteps(s, f.Post, number)
	}
}

func harmSteps(s *rand.Rand, l []api.Step, number int) []api.Step {
	if len(l) == 0 || s.IntN(4) == 0 {
		return append(l, make([]api.Step, s.IntN(10))...)
	}
	x := &l[s.IntN(len(l))]
	switch s.IntN(5) {
	case 0:
		x.Kind = oneOf(s, 0, 1, 2, 3, 4)
	case 1:
		x.N = number
	default:
		x.Text = oneOf(s, "", " ", " v", "v ", "v +", "x", "v", strings.Repeat("v", 201))
	}
	return l
}

// someText returns the text of a plan, as it may be written, with none, one or several errors.
func someText(seed uint64) string {
	s := rand.New(rand.NewPCG(seed, 52))
	l := strings.Split(plainText(someRightPlan(s)), "\n")
	for range s.IntN(4) * s.IntN(2) {
		i := s.IntN(len(l))
		switch s.IntN(6) {
		case 0:
			l = slices.Delete(l, i, i+1)
		case 1:
			l = slices.Insert(l, i, l[s.IntN(len(l))])
		case 2:
			j := s.IntN(len(l))
			l[i], l[j] = l[j], l[i]
		case 3:
			l = slices.Insert(l, i, oneOf(s, "topic a 1", "flow f from a to b marks readers 1 keepers 1", "filter v", "set", "key 1", "window tumble 5", "agg min", "nothing", "\t", "agg", "window", "filter v >", "set x"))
		default:
			l[i] = harmLine(s, l[i])
		}
		if len(l) == 0 {
			break
		}
	}
	return loosen(s, l)
}

// harmLine changes one word of a line.
func harmLine(s *rand.Rand, line string) string {
	words := strings.Fields(line)
	if len(words) == 0 {
		return line
	}
	i := s.IntN(len(words))
	word := oneOf(s, "topic", "flow", "filter", "key", "window", "agg", "marks", "bound", "5", "0", "1000000000", "999999999", "1000001", "x", "-1", "+1", "#", "A", "v", "slide", "tumble", "sum", "5\t", "\xff")
	switch s.IntN(3) {
	case 0:
		words = slices.Delete(words, i, i+1)
	case 1:
		words = slices.Insert(words, i+s.IntN(2), word)
	case 2:
		words[i] = word
	}
	return strings.Join(words, " ")
}

// loosen joins lines, with blanks and lines among them that make no difference.
func loosen(s *rand.Rand, l []string) string {
	var b strings.Builder
	loose := s.IntN(3)
	blanks := func() string { return strings.Repeat(" ", s.IntN(2)*s.IntN(2)*loose) }
	for i, line := range l {
		for range s.IntN(2) * s.IntN(2) * loose {
			b.WriteString(blanks() + oneOf(s, "", "", "#", "# topic", "#window tumble 5", " ## #") + blanks() + "\n")
		}
		// Only the first blank of a step may be made more: its expression is told as it is.
		wide := strings.Replace(line, " ", " "+blanks(), 1)
		if first, _, _ := strings.Cut(line, " "); first != "filter" && first != "set" {
			wide = strings.ReplaceAll(line, " ", " "+blanks())
		}
		b.WriteString(blanks() + wide + blanks())
		if i < len(l)-1 {
			b.WriteByte('\n')
		}
	}
	return b.String()
}

// plainText writes the lines of a plan without an error.
func plainText(p api.Plan) string {
	var l []string
	add := func(words ...any) {
		var out []string
		for _, w := range words {
			if n, ok := w.(int); ok {
				out = append(out, strconv.Itoa(n))
			} else {
				out = append(out, w.(string))
			}
		}
		l = append(l, strings.Join(out, " ")+"\n")
	}
	steps := func(list []api.Step) {
		for _, s := range list {
			if s.Kind == api.StepKey {
				add("key", s.N)
			} else {
				add([]string{"filter", "set"}[s.Kind-1], s.Text)
			}
		}
	}
	for _, x := range p.Topics {
		add("topic", x.Name, x.Parts)
	}
	for _, f := range p.Flows {
		if f.Bound == -1 {
			add("flow", f.Name, "from", f.From, "to", f.To, "marks", "readers", f.Readers, "keepers", f.Keepers)
		} else {
			add("flow", f.Name, "from", f.From, "to", f.To, "bound", f.Bound, "readers", f.Readers, "keepers", f.Keepers)
		}
		steps(f.Pre)
		switch f.Win.Kind {
		case api.WinSlide:
			add("window", "slide", f.Win.Size, f.Win.Slide)
		case api.WinTumble, api.WinSession:
			add("window", []string{"tumble", "", "session"}[f.Win.Kind-1], f.Win.Size)
		}
		if f.Agg > 0 {
			add("agg", []string{"count", "sum", "min", "max"}[f.Agg-1])
		}
		steps(f.Post)
	}
	return strings.Join(l, "")
}
