package plan_test

import (
	"slices"
	"strings"
	"testing"

	"watershed/api"
	"watershed/plan"
)

// head is what the tests below put ahead of a flow's lines: the flow begins in line 3.
var head = lines("topic a 4", "topic b 16", "flow f from a to b bound 5 readers 2 keepers 3")

// headPlan returns what head says.
func headPlan() api.Plan {
	return api.Plan{
		Topics: []api.Topic{{Name: "a", Parts: 4}, {Name: "b", Parts: 16}},
		Flows:  []api.Flow{{Name: "f", From: "a", To: "b", Bound: 5, Readers: 2, Keepers: 3}},
	}
}

// checkFlow reports the lines behind head that do not give the flow of head, changed so.
func checkFlow(t *testing.T, rest string, change func(f *api.Flow)) {
	t.Helper()
	p := headPlan()
	change(&p.Flows[0])
	checkParse(t, head+rest, p)
}

func TestLengthOfAText(t *testing.T) { // P5.2: 4096 bytes are allowed, 4097 are not, whatever they are
	for _, s := range []string{"", "#", "topic a 1\n", head, head + "window tumble 5\nagg sum\n#"} {
		want, _, e := plan.Parse(s)
		if e != api.OK {
			t.Fatal(s, e)
		}
		for _, fill := range []string{" ", "\n"} {
			checkParse(t, s+strings.Repeat(fill, maxPlan-len(s)), want)
			checkParse(t, s+strings.Repeat(fill, maxPlan-1-len(s)), want)
			checkFault(t, s+strings.Repeat(fill, maxPlan+1-len(s)), 0, api.ErrLong)
			checkFault(t, s+strings.Repeat(fill, 1<<20), 0, api.ErrLong)
		}
	}
	for _, s := range []string{"nothing\n", "topic a 0\n", "filter v\n", head + "window tumble 5\n", "\xff\x00"} {
		checkFault(t, s+strings.Repeat("\n", maxPlan+1-len(s)), 0, api.ErrLong)
		if _, _, e := plan.Parse(s + strings.Repeat("\n", maxPlan-len(s))); e == api.OK || e == api.ErrLong {
			t.Errorf("Parse(%q and so on) = %d", s, e)
		}
	}
	checkFault(t, strings.Repeat("\n", maxPlan-1)+"x", maxPlan, api.ErrLine)
}

func TestTopicLines(t *testing.T) { // P5.2
	checkParse(t, "topic a 1", api.Plan{Topics: []api.Topic{{Name: "a", Parts: 1}}})
	checkParse(t, lines("topic topic 16", "topic 5 1", "topic - 000000002"), api.Plan{Topics: []api.Topic{{Name: "topic", Parts: 16}, {Name: "5", Parts: 1}, {Name: "-", Parts: 2}}})
	for _, s := range []string{"topic", "topic a", "topic 1", "topic a 1 1", "topic a b 1", "topic a b", "topic a 1 #", "Topic a 1", "topics a 1", "topica 1", "a topic 1", "topic a -1", "topic a +1", "topic a 1.", "topic a 0x1", "topic a 1_0", "topic a 1234567890", "topic a 0000000001", "topic a \u0661"} {
		checkFault(t, s, 1, api.ErrLine)
		checkFault(t, head+s+"\n"+head, 4, api.ErrLine)
	}
}

func TestFlowLines(t *testing.T) { // P5.2
	checkFlow(t, "", func(f *api.Flow) {})
	topics := lines("topic a 4", "topic b 16")
	marks := headPlan()
	marks.Flows[0].Bound = -1
	checkParse(t, topics+"flow f from a to b marks readers 2 keepers 3", marks)
	for _, s := range []string{"flow f from a to b bound 5 readers 2 keepers 3", "flow f from a to b marks readers 2 keepers 3"} {
		words := strings.Split(s, " ")
		for i := range words {
			fewer := slices.Delete(slices.Clone(words), i, i+1)
			checkFault(t, topics+strings.Join(fewer, " "), 3, api.ErrLine)
			checkFault(t, topics+strings.Join(words[:i+1], " ")+" x "+strings.Join(words[i+1:], " "), 3, api.ErrLine)
			checkFault(t, topics+strings.Join(words[:i+1], " ")+" 1 "+strings.Join(words[i+1:], " "), 3, api.ErrLine)
			twice := slices.Insert(slices.Clone(words), i, words[i])
			checkFault(t, topics+strings.Join(twice, " "), 3, api.ErrLine)
			if i != 1 && i != 3 && i != 5 {
				other := slices.Clone(words)
				other[i] = "x"
				checkFault(t, topics+strings.Join(other, " "), 3, api.ErrLine)
				other[i] = strings.ToUpper(words[i]) + "x"
				checkFault(t, topics+strings.Join(other, " "), 3, api.ErrLine)
			}
		}
	}
	for _, s := range []string{"flow f to b from a marks readers 2 keepers 3", "flow f from a to b bound marks readers 2 keepers 3", "flow f from a to b marks 5 readers 2 keepers 3", "flow f from a to b bound -1 readers 2 keepers 3", "flow f from a to b marks keepers 3 readers 2", "flow f from a to b readers 2 keepers 3 marks", "flow f from a to b readers 2 keepers 3"} {
		checkFault(t, topics+s, 3, api.ErrLine)
	}
}

func TestNamesAreAnyWords(t *testing.T) { // P5.2: what they may be is for Check, whose errors come behind those of all lines
	checkFault(t, "topic # 1", 1, api.ErrName)
	checkFault(t, "topic é 1\n", 1, api.ErrName)
	checkFault(t, "topic a\t 1\n", 1, api.ErrName)
	checkFault(t, "topic "+strings.Repeat("a", 17)+" 1\n", 1, api.ErrName)
	checkFault(t, "flow F from X to Y marks readers 0 keepers 0", 1, api.ErrName)
	checkFault(t, "flow f from X to Y marks readers 0 keepers 0", 1, api.ErrTopic)
	checkFault(t, lines("topic a 4", "topic b 16", "flow from from a to b marks readers 1 keepers 1", "flow marks from b to to marks readers 1 keepers 1"), 4, api.ErrTopic)
	words := headPlan()
	words.Flows[0].Name = "from"
	checkParse(t, strings.Replace(head, "flow f ", "flow from ", 1), words)
	checkFault(t, "topic A 1\nnothing", 2, api.ErrLine)
	checkFault(t, "topic A 1\nkey 1", 2, api.ErrStep)
	checkFault(t, "topic A 1\n"+head+"window tumble 5", 5, api.ErrStep)
}

func TestNumbers(t *testing.T) { // P5.2: of 1 to 9 digits, leading zeros among them
	forms := map[string]func(f *api.Flow, n int){
		"key NUMBER\n":                     func(f *api.Flow, n int) { f.Pre = []api.Step{{Kind: api.StepKey, N: n}} },
		"window tumble NUMBER\nagg sum\n":  func(f *api.Flow, n int) { f.Win, f.Agg = api.Window{Kind: api.WinTumble, Size: n}, api.AggSum },
		"window session NUMBER\nagg sum\n": func(f *api.Flow, n int) { f.Win, f.Agg = api.Window{Kind: api.WinSession, Size: n}, api.AggSum },
		"window slide 8 NUMBER\nagg sum\n": func(f *api.Flow, n int) { f.Win, f.Agg = api.Window{Kind: api.WinSlide, Size: 8, Slide: n}, api.AggSum },
		"window slide NUMBER 3\nagg sum\n": func(f *api.Flow, n int) { f.Win, f.Agg = api.Window{Kind: api.WinSlide, Size: n, Slide: 3}, api.AggSum },
	}
	for form, change := range forms {
		for text, n := range map[string]int{"3": 3, "4": 4, "05": 5, "006": 6, "000000007": 7, "08": 8} {
			checkFlow(t, strings.Replace(form, "NUMBER", text, 1), func(f *api.Flow) { change(f, n) })
		}
		for _, text := range wrongNumbers() {
			checkFault(t, head+strings.Replace(form, "NUMBER", text, 1), 4, api.ErrLine)
		}
	}
	for _, place := range []string{"4\n", "bound 5", "readers 2", "keepers 3"} {
		for _, text := range wrongNumbers() {
			wrong := place[:strings.IndexAny(place, "0123456789")] + text + strings.TrimLeft(place, "abcdefghijklmnopqrstuvwxyz 0123456789")
			s := strings.Replace(head, place, wrong, 1)
			line := 3
			if place == "4\n" {
				line = 1
			}
			checkFault(t, s, line, api.ErrLine)
		}
	}
	checkFault(t, "topic a 999999999", 1, api.ErrArg) // nine digits are a number, if not one that is allowed
	checkFault(t, "topic a 000000000", 1, api.ErrArg)
	checkFault(t, head+"key 999999999", 3, api.ErrStep)
	checkFault(t, head+"window tumble 999999999\nagg sum", 3, api.ErrArg)
	checkFault(t, strings.Replace(head, "bound 5", "bound 999999999", 1), 3, api.ErrArg)
}

// wrongNumbers returns words, or none, that are no number.
func wrongNumbers() []string {
	l := []string{"", "1234567890", "0000000001", strings.Repeat("1", 40), strings.Repeat("0", 400), "-1", "+1", "-0", "1.0", "1e1", "0x1", "1_0", "1,0", "a", "1a", "a1", "1 1", "\u0663", "NUMBER", "1\t", "1\r", "1\x00", "²"}
	for c := range 256 {
		if c >= '0' && c <= '9' || c == ' ' || c == '\n' {
			continue
		}
		b := string([]byte{byte(c)})
		l = append(l, b, "1"+b, b+"1", "1"+b+"1")
	}
	return l
}

func TestStepLines(t *testing.T) { // P5.2
	for word, kind := range map[string]int{"filter": api.StepFilter, "set": api.StepSet} {
		for s, text := range map[string]string{
			" v": "v", " v + 1": "v + 1", "    v+1": "v+1", " v   +  1": "v   +  1", " v + 1   ": "v + 1", "   ( v )   ": "( v )", " - 1": "- 1",
		} {
			checkFlow(t, word+s, func(f *api.Flow) { f.Pre = []api.Step{{Kind: kind, Text: text}} })
			checkFlow(t, "  "+word+s+"\n", func(f *api.Flow) { f.Pre = []api.Step{{Kind: kind, Text: text}} })
			checkFlow(t, "window session 9\nagg min\n"+word+s+"\n", func(f *api.Flow) {
				f.Win, f.Agg, f.Post = api.Window{Kind: api.WinSession, Size: 9}, api.AggMin, []api.Step{{Kind: kind, Text: text}}
			})
		}
		for _, s := range []string{word, " " + word, word + "   ", word + "v", word + "\tv", strings.ToUpper(word) + " v", word + "s v"} {
			checkFault(t, head+s, 4, api.ErrLine)
		}
		for s, e := range map[string]api.Errno{"v >": api.ErrEnd, "v v": api.ErrWord, "x": api.ErrWord, "#": api.ErrWord, "v # 1": api.ErrWord, "v\t": api.ErrWord, "v \r": api.ErrWord, strings.Repeat("v", 201): api.ErrLong, "v" + strings.Repeat("+1", 32): api.ErrMany} {
			checkFault(t, head+word+" "+s, 3, e) // the error of Check, in the line in which the flow begins
			checkFault(t, head+"window session 9\nagg min\n"+word+" "+s, 3, e)
		}
	}
	checkFlow(t, "key 0\nkey 16", func(f *api.Flow) { f.Pre = []api.Step{{Kind: api.StepKey}, {Kind: api.StepKey, N: 16}} })
	for _, s := range []string{"key", "key 1 1", "key a", "key 1 a", "keys 1", "Key 1", "key1"} {
		checkFault(t, head+s, 4, api.ErrLine)
	}
	checkFault(t, head+"key 17", 3, api.ErrStep)
	checkFault(t, head+"window session 9\nagg min\nkey 1", 3, api.ErrStep)
}

func TestOrderOfSteps(t *testing.T) { // P5.2: as in the text, before the window and after it
	checkFlow(t, lines("set 1", "key 3", "filter 2", "set 3", "window tumble 5", "agg max", "filter 4", "set 5", "filter 6"), func(f *api.Flow) {
		f.Pre = []api.Step{{Kind: api.StepSet, Text: "1"}, {Kind: api.StepKey, N: 3}, {Kind: api.StepFilter, Text: "2"}, {Kind: api.StepSet, Text: "3"}}
		f.Win, f.Agg = api.Window{Kind: api.WinTumble, Size: 5}, api.AggMax
		f.Post = []api.Step{{Kind: api.StepFilter, Text: "4"}, {Kind: api.StepSet, Text: "5"}, {Kind: api.StepFilter, Text: "6"}}
	})
	eight := strings.Repeat("set v\n", maxSteps)
	checkFlow(t, eight+"window tumble 5\nagg max\n"+eight, func(f *api.Flow) {
		f.Pre, f.Post, f.Win, f.Agg = some(maxSteps), some(maxSteps), api.Window{Kind: api.WinTumble, Size: 5}, api.AggMax
	})
	checkFault(t, head+eight+"set v", 3, api.ErrMany)
	checkFault(t, head+eight+"window tumble 5\nagg max\n"+eight+"set v", 3, api.ErrMany)
}

func TestWindowLines(t *testing.T) { // P5.2
	for s, w := range map[string]api.Window{
		"window tumble 1": {Kind: api.WinTumble, Size: 1}, "window tumble 1000000": {Kind: api.WinTumble, Size: maxSize}, "window session 20": {Kind: api.WinSession, Size: 20}, "window slide 10 5": {Kind: api.WinSlide, Size: 10, Slide: 5}, "window slide 16 1": {Kind: api.WinSlide, Size: 16, Slide: 1},
	} {
		for word, agg := range map[string]int{"count": api.AggCount, "sum": api.AggSum, "min": api.AggMin, "max": api.AggMax} {
			checkFlow(t, s+"\nagg "+word, func(f *api.Flow) { f.Win, f.Agg = w, agg })
		}
		checkFault(t, head+s+" 1 1\nagg sum", 4, api.ErrLine)
		checkFault(t, head+s+" x\nagg sum", 4, api.ErrLine)
	}
	for _, s := range []string{"window", "window tumble", "window session", "window slide", "window slide 5", "window 5", "window 10 5", "window none", "window none 0", "window tumble 5 5", "window session 5 5", "window slide 10 5 5", "window slide a 5", "window slide 10 a", "window Tumble 5", "window 5 tumble", "windows tumble 5", "window tumbles 5"} {
		checkFault(t, head+s+"\nagg sum", 4, api.ErrLine)
	}
	for _, s := range []string{"agg", "agg sum sum", "agg avg", "agg Sum", "agg sums", "agg 1", "agg sum 1", "aggs sum", "agg \tsum", "agg NAME"} {
		checkFault(t, head+"window tumble 5\n"+s, 5, api.ErrLine)
	}
	for s, e := range map[string]api.Errno{"tumble 0": api.ErrArg, "tumble 1000001": api.ErrArg, "session 0": api.ErrArg, "slide 5 0": api.ErrArg, "slide 5 6": api.ErrArg, "slide 17 1": api.ErrArg, "slide 0 0": api.ErrArg} {
		checkFault(t, head+"window "+s+"\nagg sum", 3, e)
	}
}

func TestLinesOfNoFlow(t *testing.T) { // P5.2
	for _, s := range []string{"filter v", "set v", "filter #", "key 1", "key 999999999", "window tumble 5", "window slide 0 0", "window session 5", "agg sum"} {
		checkFault(t, s, 1, api.ErrStep)
		checkFault(t, "\n# x\n  "+s+"  \n", 3, api.ErrStep)
		checkFault(t, lines("topic a 4", "topic b 16", s, "flow f from a to b marks readers 1 keepers 1"), 3, api.ErrStep)
	}
	for _, s := range []string{"filter", "set ", "key", "key x", "window", "window tumble", "agg", "agg avg"} { // ErrLine comes before ErrStep
		checkFault(t, s, 1, api.ErrLine)
		checkFault(t, "topic a 4\n"+s, 2, api.ErrLine)
	}
}

func TestASecondWindow(t *testing.T) { // P5.2: of one flow
	first := "window tumble 5\nagg sum\n"
	for _, w := range []string{"window tumble 5", "window slide 4 2", "window session 1"} {
		checkFault(t, head+first+w+"\nagg sum", 6, api.ErrStep)
		checkFault(t, head+first+"filter v\n"+w+"\nagg sum", 7, api.ErrStep)
		checkFault(t, head+first+"topic c 1\n"+w+"\nagg sum", 7, api.ErrStep)
		checkFault(t, head+"window session 5\n"+w, 5, api.ErrStep)
		checkFault(t, head+first+w+" x\nagg sum", 6, api.ErrLine)
	}
	p := headPlan()
	p.Topics = append(p.Topics, api.Topic{Name: "c", Parts: 16})
	p.Flows[0].Win, p.Flows[0].Agg = api.Window{Kind: api.WinTumble, Size: 5}, api.AggSum
	p.Flows = append(p.Flows, api.Flow{Name: "g", From: "b", To: "c", Bound: -1, Readers: 1, Keepers: 1, Win: api.Window{Kind: api.WinSession, Size: 7}, Agg: api.AggMax})
	checkParse(t, "topic a 4\ntopic b 16\ntopic c 16\n"+strings.SplitAfter(head, "\n")[2]+first+"flow g from b to c marks readers 1 keepers 1\nwindow session 7\nagg max", p)
}

func TestAggIsTheNextLineAfterWindow(t *testing.T) { // P5.2
	for _, s := range []string{"agg sum", "filter v\nagg sum", "key 1\nagg sum"} {
		checkFault(t, head+s, 4+strings.Count(s, "\n"), api.ErrStep)
	}
	window := head + "window tumble 5\n"
	checkFault(t, window+"agg sum\nagg sum", 6, api.ErrStep)
	checkFault(t, window+"agg sum\nset v\nagg sum", 7, api.ErrStep)
	for _, s := range []string{"topic c 1", "flow g from a to b marks readers 1 keepers 1", "flow g from a to b bound 1 readers 1 keepers 1", "filter v", "set v", "key 1", "window tumble 5", "window slide 5 5", "window session 5"} {
		checkFault(t, window+s, 5, api.ErrStep)
		checkFault(t, window+s+"\nagg sum", 5, api.ErrStep)
		checkFault(t, window+"\n # x\n"+s, 7, api.ErrStep)
	}
	for _, s := range []string{"nothing", "topic c", "flow", "filter", "key", "window", "agg", "agg avg", "Agg sum"} { // ErrLine comes before ErrStep
		checkFault(t, window+s, 5, api.ErrLine)
	}
}

func TestTextsThatEndAfterWindow(t *testing.T) { // P5.2: the line `window` has the error, and Check is not asked
	for _, w := range []string{"window tumble 5", "window slide 4 2", "window session 1", "window tumble 0"} {
		for _, end := range []string{"", "\n", "\n\n\n", "\n# agg sum\n", "  \n   \n  #"} {
			checkFault(t, head+w+end, 4, api.ErrStep)
			checkFault(t, "\n\n"+head+"set v\n\n"+w+end, 8, api.ErrStep)
			checkFault(t, "topic A 0\nflow F from A to A marks readers 0 keepers 0\n"+w+end, 3, api.ErrStep)
		}
	}
}

func TestIgnoredLines(t *testing.T) { // P5.2, P5.4: between all lines, also between `window` and `agg`
	for _, idle := range []string{"", " ", "     ", "#", "# x", "#topic a 1", "   # agg sum", "##", "#\xff\x00\t", "# # #"} {
		checkParse(t, idle, api.Plan{})
		checkParse(t, idle+"\n", api.Plan{})
		for i := range len(text1) + 1 {
			l := slices.Insert(slices.Clone(text1), i, idle, idle)
			checkParse(t, strings.Join(l, "\n"), plan1())
			checkParse(t, lines(l...), plan1())
		}
		checkFault(t, idle+"\n"+idle+"\ntopic a 1\n"+idle+"\ntopic a 1\n"+idle, 5, api.ErrTwice)
		checkFault(t, idle+"\nnothing", 2, api.ErrLine)
	}
	for _, s := range []string{"\t", "\r", "\x00", "\u00a0", "x # y", "-", "//", ";", "\v", "\f", "\u2028"} {
		checkFault(t, s, 1, api.ErrLine)
		checkFault(t, head+s+"\n", 4, api.ErrLine)
	}
	checkFault(t, "topic a 1 # x", 1, api.ErrLine)
	checkFault(t, "topic a 1\r\n", 1, api.ErrLine)
	checkFault(t, "topic\ta 1", 1, api.ErrLine)
	checkFault(t, "topic a 1\rtopic b 1", 1, api.ErrLine)
}

func TestBlanks(t *testing.T) { // P5.2, P5.4: at the beginning, between the words and at the end
	for _, n := range []int{1, 2, 7, 60} {
		blanks := strings.Repeat(" ", n)
		for i, line := range text1 {
			l := slices.Clone(text1)
			for _, s := range []string{blanks + line, line + blanks, blanks + line + blanks, strings.Replace(line, " ", blanks, 1)} {
				l[i] = s
				checkParse(t, lines(l...), plan1())
				checkParse(t, strings.Join(l, "\n"), plan1())
			}
			if !strings.HasPrefix(line, "filter") && !strings.HasPrefix(line, "set") {
				l[i] = strings.ReplaceAll(line, " ", blanks)
				checkParse(t, lines(l...), plan1())
			}
		}
	}
}

func TestTheLastLineFeed(t *testing.T) { // P5.2
	for i := range text1 {
		with := lines(text1[:i+1]...)
		p, line, e := plan.Parse(with)
		q, again, f := plan.Parse(strings.TrimSuffix(with, "\n"))
		if line != again || e != f || !same(p, q) {
			t.Errorf("%q: %v, %d, %d; without its last line feed %v, %d, %d", with, p, line, e, q, again, f)
		}
	}
	checkParse(t, strings.Join(text1, "\n"), plan1())
	checkParse(t, lines(text1...), plan1())
	checkFault(t, "\n", 0, api.OK)
	checkFault(t, "", 0, api.OK)
}

func TestTopicsAnywhere(t *testing.T) { // P5.2: but not as the next line after `window`; the flow goes on behind them
	checkParse(t, lines(text1[2], text1[3], text1[0], text1[4], text1[5], text1[6], text1[1], text1[7]), plan1())
	checkParse(t, lines(text1[2], text1[3], text1[4], text1[5], text1[6], text1[7], text1[0], text1[1]), plan1())
}

func TestLinesOfChecksErrors(t *testing.T) { // P5.2: the number of the line in which the topic or flow begins
	for i := range maxTopics {
		p := wide()
		p.Topics[i].Name = "T"
		checkFault(t, "\n"+strings.ReplaceAll(plainText(p), "\n", "\n# x\n\n"), 2+3*i, api.ErrName)
	}
	for i := range maxFlows {
		p := wide()
		p.Flows[i].Keepers = 9
		checkFault(t, plainText(p), 17+5*i, api.ErrArg)
		p = wide()
		p.Flows[i].Post[0].Text = "v +"
		checkFault(t, plainText(p), 17+5*i, api.ErrEnd)
		checkFault(t, "topic a\n"+plainText(p), 1, api.ErrLine)
	}
	p := wide()
	p.Topics = append(p.Topics, api.Topic{Name: "more", Parts: 1})
	checkFault(t, plainText(p), 0, api.ErrMany)
	p = wide()
	p.Flows = append(p.Flows, p.Flows[0])
	checkFault(t, plainText(p), 0, api.ErrMany)
	checkFault(t, strings.Repeat("topic a 1\n", 17), 0, api.ErrMany)
	checkFault(t, strings.Repeat("topic a 1\n", 16), 2, api.ErrTwice)
	checkFault(t, strings.Repeat("topic a 1\n", 400), 0, api.ErrMany)
	for n := range 30 { // topics behind flows are counted by themselves
		checkFault(t, strings.Repeat("\n", n)+lines(text1...)+"topic c 0", n+9, api.ErrArg)
		checkFault(t, strings.Repeat("\n", n)+lines(text1[1:]...)+"topic c 1", n+2, api.ErrTopic)
	}
}

func TestSecondReadingOfShortTexts(t *testing.T) { // P5.2: all texts of up to five lines of these
	kinds := []string{"topic c 2", "flow f from a to b marks readers 1 keepers 1", "flow g from b to d marks readers 1 keepers 1", "filter v", "key 3", "window tumble 5", "agg sum", "# x", "what"}
	start := lines("topic a 16", "topic b 16", "topic d 16")
	var try func(text string, depth int)
	try = func(text string, depth int) {
		checkSecond(t, text)
		if depth == 0 {
			return
		}
		for _, s := range kinds {
			try(text+s+"\n", depth-1)
		}
	}
	try(start, 5)
}

// checkSecond reports a text that the second reading reads in another way.
func checkSecond(t *testing.T, text string) api.Errno {
	t.Helper()
	want, line, e := secondParse(text)
	if e == api.OK {
		checkParse(t, text, want)
	} else {
		checkFault(t, text, line, e)
	}
	return e
}

func TestSecondReadingOfManyTexts(t *testing.T) { // P5.2
	count := map[api.Errno]int{}
	for seed := range uint64(20000) {
		count[checkSecond(t, someText(seed))]++
	}
	for _, e := range []api.Errno{api.OK, api.ErrLine, api.ErrStep, api.ErrArg, api.ErrTopic, api.ErrTwice, api.ErrName, api.ErrWord, api.ErrEnd} {
		if count[e] < 10 {
			t.Errorf("%d texts with the error %d", count[e], e)
		}
	}
}
