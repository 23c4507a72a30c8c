package plan_test

import (
	"math"
	"strings"
	"testing"

	"watershed/api"
)

// outside are numbers that are allowed nowhere in a plan.
var outside = []int{math.MinInt, math.MinInt + 1, math.MinInt32, -1000, -2, maxSize + 1, math.MaxInt32, 1 << 32, 1<<32 + 1, 1<<60 + 1, math.MaxInt - 1, math.MaxInt}

// errnoIf returns an error unless ok holds.
func errnoIf(ok bool, e api.Errno) api.Errno {
	if ok {
		return api.OK
	}
	return e
}

// positionIf returns a position unless e is OK.
func positionIf(e api.Errno, at int) int {
	if e == api.OK {
		return 0
	}
	return at
}

// checkFlow1 reports whether plan1, with its flow changed, does not have this error.
func checkFlow1(t *testing.T, what string, e api.Errno, change func(f *api.Flow)) {
	t.Helper()
	p := plan1()
	change(&p.Flows[0])
	checkCheck(t, what, p, positionIf(e, 101), e)
}

func TestPlansWithoutErrors(t *testing.T) { // P5.1
	checkCheck(t, "nothing", api.Plan{}, 0, api.OK)
	checkCheck(t, "no topics and flows", api.Plan{Topics: []api.Topic{}, Flows: []api.Flow{}}, 0, api.OK)
	checkCheck(t, "a topic", api.Plan{Topics: []api.Topic{{Name: "a", Parts: 1}}}, 0, api.OK)
	checkCheck(t, "Text 1", plan1(), 0, api.OK)
	checkCheck(t, "the widest", wide(), 0, api.OK)
	checkFlow1(t, "without windows", api.OK, func(f *api.Flow) { f.Win, f.Agg, f.Post = api.Window{}, 0, nil })
	checkFlow1(t, "without steps", api.OK, func(f *api.Flow) { f.Pre, f.Post = nil, nil })
	checkFlow1(t, "named as its topic", api.OK, func(f *api.Flow) { f.Name = f.From })
}

func TestTooManyTopicsAndFlows(t *testing.T) { // P5.1: 16 and 8 are allowed
	p := wide()
	p.Topics = append(p.Topics, api.Topic{Name: "more", Parts: 1})
	checkCheck(t, "17 topics", p, 0, api.ErrMany)
	p = wide()
	g := p.Flows[0]
	g.Name, g.To = "more", "t15"
	p.Flows = append(p.Flows, g)
	checkCheck(t, "9 flows", p, 0, api.ErrMany)
	checkCheck(t, "17 empty topics", api.Plan{Topics: make([]api.Topic, 17)}, 0, api.ErrMany)
	checkCheck(t, "9 empty flows", api.Plan{Flows: make([]api.Flow, 9)}, 0, api.ErrMany)
	checkCheck(t, "16 empty topics", api.Plan{Topics: make([]api.Topic, 16)}, 1, api.ErrName)
	checkCheck(t, "8 empty flows", api.Plan{Flows: make([]api.Flow, 8)}, 101, api.ErrName)
	checkCheck(t, "a million topics", api.Plan{Topics: make([]api.Topic, 1000000)}, 0, api.ErrMany)
}

// checkName reports a name that is not allowed, or is, for a topic and for a flow.
func checkName(t *testing.T, name string, ok bool) {
	t.Helper()
	e := errnoIf(ok, api.ErrName)
	checkCheck(t, "topic "+name, api.Plan{Topics: []api.Topic{{Name: name, Parts: 1}}}, positionIf(e, 1), e)
	checkFlow1(t, "flow "+name, e, func(f *api.Flow) { f.Name = name })
}

func TestNames(t *testing.T) { // P5.1: of 1 to 16 bytes
	for n := range 40 {
		for _, c := range []string{"a", "z", "0", "9", "-"} {
			checkName(t, strings.Repeat(c, n), n >= 1 && n <= maxName)
		}
	}
	checkName(t, strings.Repeat("a", 1<<20), false)
	for _, name := range []string{"abcdefghijklmnop", "qrstuvwxyz", "0123456789-", "-a-", "--", "topic", "1"} {
		checkName(t, name, true)
	}
	for c := range 256 {
		b := string([]byte{byte(c)})
		ok := strings.Contains("abcdefghijklmnopqrstuvwxyz0123456789-", b)
		for _, name := range []string{b, b + "a", "a" + b, "a" + b + "z", strings.Repeat("a", 15) + b, b + strings.Repeat("z", 15)} {
			checkName(t, name, ok)
		}
	}
	for _, name := range []string{"é", "a.b", "a_b", "a b", " a", "a ", "A", "a\n", "\x00", "日本"} {
		checkName(t, name, false)
	}
}

func TestNamesThatAreThereTwice(t *testing.T) { // P5.1: the later one has the error
	for i := range maxTopics {
		for j := range i {
			p := wide()
			p.Topics[i].Name = p.Topics[j].Name
			checkCheck(t, "a topic", p, i+1, api.ErrTwice)
		}
	}
	for i := range maxFlows {
		for j := range i {
			p := wide()
			p.Flows[i].Name = p.Flows[j].Name
			checkCheck(t, "a flow", p, 101+i, api.ErrTwice)
		}
	}
	p := plan1()
	p.Topics = append(p.Topics, api.Topic{Name: "click", Parts: 1}, api.Topic{Name: "clicks1", Parts: 1}, api.Topic{Name: "clickt", Parts: 1})
	checkCheck(t, "names that are much the same", p, 0, api.OK)
}

func TestPartitions(t *testing.T) { // P5.1: 1 to 16
	for n := -20; n < 40; n++ {
		e := errnoIf(n >= 1 && n <= maxParts, api.ErrArg)
		checkCheck(t, "a topic", api.Plan{Topics: []api.Topic{{Name: "a", Parts: n}}}, positionIf(e, 1), e)
	}
	for _, n := range outside {
		checkCheck(t, "a topic", api.Plan{Topics: []api.Topic{{Name: "a", Parts: n}}}, 1, api.ErrArg)
	}
}

func TestTopicsOfAFlow(t *testing.T) { // P5.1
	for what, change := range map[string]func(f *api.Flow){
		"no topic From":     func(f *api.Flow) { f.From = "none" },
		"no topic To":       func(f *api.Flow) { f.To = "none" },
		"an empty From":     func(f *api.Flow) { f.From = "" },
		"an empty To":       func(f *api.Flow) { f.To = "" },
		"part of a name":    func(f *api.Flow) { f.From = "click" },
		"more than a name":  func(f *api.Flow) { f.To = "countss" },
		"another case":      func(f *api.Flow) { f.From = "Clicks" },
		"a name of a flow":  func(f *api.Flow) { f.From = "f" },
		"To is From":        func(f *api.Flow) { f.From = "counts" },
		"To is From, small": func(f *api.Flow) { f.To = "clicks" },
		"neither":           func(f *api.Flow) { f.From, f.To = "none", "nowhere" },
		"the same of none":  func(f *api.Flow) { f.From, f.To = "none", "none" },
	} {
		checkFlow1(t, what, api.ErrTopic, change)
	}
	for n := 1; n <= maxParts; n++ {
		p := plan1()
		p.Topics[1].Parts = n
		e := errnoIf(n == 16, api.ErrTopic)
		checkCheck(t, "partitions of To", p, positionIf(e, 101), e)
		p = plan1()
		p.Topics[0].Parts = n
		p.Flows[0].Readers = 1
		checkCheck(t, "partitions of From", p, 0, api.OK)
	}
}

func TestATopicIsWrittenOnce(t *testing.T) { // P5.1: the later flow has the error
	for i := range maxFlows {
		for j := range i {
			p := wide()
			p.Flows[i].To = p.Flows[j].To
			checkCheck(t, "To", p, 101+i, api.ErrTopic)
		}
	}
	p := wide() // it may be read often
	for i := range p.Flows {
		p.Flows[i].From = "t1"
	}
	checkCheck(t, "From", p, 0, api.OK)
}

func TestBounds(t *testing.T) { // P5.1: -1, and 0 to 1000000
	for _, n := range append([]int{-3, -2, -1, 0, 1, 2, 999, maxBound - 1, maxBound, maxBound + 1, maxBound + 2}, outside...) {
		checkFlow1(t, "Bound", errnoIf(n >= -1 && n <= maxBound, api.ErrArg), func(f *api.Flow) { f.Bound = n })
	}
}

func TestBoundsBehindAFlow(t *testing.T) { // P5.1: -1 alone, whether the flow that writes From is an earlier or a later one
	for i := range maxFlows {
		for j := range maxFlows {
			if i == j {
				continue
			}
			for _, n := range []int{-2, -1, 0, 1, maxBound, maxBound + 1} {
				p := wide()
				p.Flows[i].From, p.Flows[i].Bound = p.Flows[j].To, n
				e := errnoIf(n == -1, api.ErrArg)
				checkCheck(t, "Bound", p, positionIf(e, 101+i), e)
			}
		}
	}
	p := plan1() // a flow that writes From counts, whatever else is wrong with it
	p.Topics = append(p.Topics, api.Topic{Name: "more", Parts: 16})
	p.Flows = append(p.Flows, api.Flow{To: "clicks"})
	checkCheck(t, "a later flow with an error", p, 101, api.ErrArg)
	p.Flows[0].Bound = -1
	checkCheck(t, "the later flow itself", p, 102, api.ErrName)
}

func TestFlowsInARing(t *testing.T) { // P5.1: Check does not mind
	p := api.Plan{
		Topics: []api.Topic{{Name: "a", Parts: 16}, {Name: "b", Parts: 16}},
		Flows:  []api.Flow{{Name: "f", From: "a", To: "b", Bound: -1, Readers: 1, Keepers: 1}, {Name: "g", From: "b", To: "a", Bound: -1, Readers: 1, Keepers: 1}},
	}
	checkCheck(t, "a ring", p, 0, api.OK)
}

func TestReaders(t *testing.T) { // P5.1: 1 to 8, and no more than there are partitions of From
	for parts := 1; parts <= maxParts; parts++ {
		for n := -2; n <= 20; n++ {
			p := plan1()
			p.Topics[0].Parts = parts
			p.Flows[0].Readers = n
			e := errnoIf(n >= 1 && n <= maxSub && n <= parts, api.ErrArg)
			checkCheck(t, "Readers", p, positionIf(e, 101), e)
		}
	}
	for _, n := range outside {
		checkFlow1(t, "Readers", api.ErrArg, func(f *api.Flow) { f.Readers = n })
	}
}

func TestKeepers(t *testing.T) { // P5.1: 1 to 8, however many partitions there are
	for n := -2; n <= 20; n++ {
		p := plan1()
		p.Topics[0].Parts = 1
		p.Flows[0].Readers = 1
		p.Flows[0].Keepers = n
		e := errnoIf(n >= 1 && n <= maxSub, api.ErrArg)
		checkCheck(t, "Keepers", p, positionIf(e, 101), e)
	}
	for _, n := range outside {
		checkFlow1(t, "Keepers", api.ErrArg, func(f *api.Flow) { f.Keepers = n })
	}
}

func TestWindows(t *testing.T) { // P5.1: each kind, at its bounds and beyond
	for _, c := range []struct {
		win api.Window
		ok  bool
	}{
		{api.Window{Kind: api.WinTumble}, false}, {api.Window{Kind: api.WinTumble, Size: 1}, true}, {api.Window{Kind: api.WinTumble, Size: maxSize}, true}, {api.Window{Kind: api.WinTumble, Size: maxSize + 1}, false}, {api.Window{Kind: api.WinTumble, Size: -1}, false},
		{api.Window{Kind: api.WinTumble, Size: 5, Slide: 1}, false}, {api.Window{Kind: api.WinTumble, Size: 5, Slide: 5}, false}, {api.Window{Kind: api.WinTumble, Size: 5, Slide: -1}, false},
		{api.Window{Kind: api.WinSession}, false}, {api.Window{Kind: api.WinSession, Size: 1}, true}, {api.Window{Kind: api.WinSession, Size: maxSize}, true}, {api.Window{Kind: api.WinSession, Size: maxSize + 1}, false}, {api.Window{Kind: api.WinSession, Size: -1}, false},
		{api.Window{Kind: api.WinSession, Size: 5, Slide: 1}, false}, {api.Window{Kind: api.WinSession, Size: 5, Slide: 5}, false}, {api.Window{Kind: api.WinSession, Size: 5, Slide: -1}, false},
		{api.Window{Kind: api.WinSlide}, false}, {api.Window{Kind: api.WinSlide, Slide: 1}, false}, {api.Window{Kind: api.WinSlide, Size: 1}, false}, {api.Window{Kind: api.WinSlide, Size: 1, Slide: 1}, true}, {api.Window{Kind: api.WinSlide, Size: 1, Slide: 2}, false}, {api.Window{Kind: api.WinSlide, Size: -1, Slide: -1}, false}, {api.Window{Kind: api.WinSlide, Size: 5, Slide: -1}, false}, {api.Window{Kind: api.WinSlide, Size: 5, Slide: 0}, false},
		{api.Window{Kind: api.WinSlide, Size: 16, Slide: 1}, true}, {api.Window{Kind: api.WinSlide, Size: 17, Slide: 1}, false}, {api.Window{Kind: api.WinSlide, Size: 32, Slide: 2}, true}, {api.Window{Kind: api.WinSlide, Size: 33, Slide: 2}, false},
		{api.Window{Kind: api.WinSlide, Size: maxSize, Slide: maxSize}, true}, {api.Window{Kind: api.WinSlide, Size: maxSize, Slide: maxSize / 16}, true}, {api.Window{Kind: api.WinSlide, Size: maxSize, Slide: maxSize/16 - 1}, false}, {api.Window{Kind: api.WinSlide, Size: maxSize, Slide: maxSize + 1}, false},
		{api.Window{Kind: api.WinSlide, Size: maxSize + 1, Slide: maxSize + 1}, false}, {api.Window{Kind: api.WinSlide, Size: maxSize + 1, Slide: maxSize}, false}, {api.Window{Kind: api.WinSlide, Size: 999999, Slide: 999999}, true}, {api.Window{Kind: api.WinSlide, Size: 999999, Slide: maxSize}, false},
		{api.Window{Kind: 4, Size: 5}, false}, {api.Window{Kind: -1, Size: 5}, false}, {api.Window{Kind: 4, Size: 5, Slide: 5}, false}, {api.Window{Kind: 4}, false},
	} {
		checkFlow1(t, "Win", errnoIf(c.ok, api.ErrArg), func(f *api.Flow) { f.Win = c.win })
	}
	for _, n := range outside {
		for _, w := range []api.Window{{Kind: n}, {Kind: n, Size: 5}, {Kind: api.WinTumble, Size: n}, {Kind: api.WinTumble, Size: 5, Slide: n}, {Kind: api.WinSlide, Size: n, Slide: 1}, {Kind: api.WinSlide, Size: n, Slide: n}, {Kind: api.WinSlide, Size: 5, Slide: n}, {Kind: api.WinSession, Size: n}, {Kind: api.WinSession, Size: 5, Slide: n}} {
			checkFlow1(t, "Win", api.ErrArg, func(f *api.Flow) { f.Win = w })
		}
	}
}

func TestSlides(t *testing.T) { // P5.1: all small ones
	for size := -2; size <= 100; size++ {
		for slide := -2; slide <= 100; slide++ {
			ok := size >= 1 && slide >= 1 && slide <= size && size <= 16*slide
			checkFlow1(t, "Win", errnoIf(ok, api.ErrArg), func(f *api.Flow) { f.Win = api.Window{Kind: api.WinSlide, Size: size, Slide: slide} })
		}
	}
}

func TestNoWindow(t *testing.T) { // P5.1: neither Size nor Slide nor Agg
	for _, n := range append([]int{-1, 0, 1, 2, 5}, outside...) {
		e := errnoIf(n == 0, api.ErrArg)
		checkFlow1(t, "Size", e, func(f *api.Flow) { f.Win, f.Agg, f.Post = api.Window{Size: n}, 0, nil })
		checkFlow1(t, "Slide", e, func(f *api.Flow) { f.Win, f.Agg, f.Post = api.Window{Slide: n}, 0, nil })
		checkFlow1(t, "Agg", e, func(f *api.Flow) { f.Win, f.Agg, f.Post = api.Window{}, n, nil })
	}
}

func TestAggregates(t *testing.T) { // P5.1: 1 to 4 with a window, 0 without one
	for _, w := range []api.Window{{}, {Kind: api.WinTumble, Size: 3}, {Kind: api.WinSlide, Size: 3, Slide: 1}, {Kind: api.WinSession, Size: 3}} {
		for _, n := range append([]int{-2, -1, 0, 1, 2, 3, 4, 5, 6}, outside...) {
			ok := w.Kind == api.WinNone && n == 0 || w.Kind != api.WinNone && n >= 1 && n <= 4
			checkFlow1(t, "Agg", errnoIf(ok, api.ErrArg), func(f *api.Flow) { f.Win, f.Agg, f.Post = w, n, nil })
		}
	}
}
