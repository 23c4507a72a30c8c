package graph_test

import (
	"math/rand/v2"
	"slices"
	"strconv"
	"strings"
	"testing"

	"watershed/api"
	"watershed/graph"
)

// The limits, in the numbers of the document.
const (
	maxTopics = 16
	maxFlows  = 8
	maxParts  = 16
	maxSub    = 8
	maxSteps  = 8
	maxBound  = 1000000
)

// links returns a plan whose topics have one letter each, and whose flows are said by two: "ac" reads a and writes c.
func links(topics string, flows ...string) api.Plan {
	var p api.Plan
	for _, c := range topics {
		p.Topics = append(p.Topics, api.Topic{Name: string(c), Parts: 16})
	}
	for i, s := range flows {
		p.Flows = append(p.Flows, api.Flow{Name: "f" + strconv.Itoa(i), From: s[:1], To: s[1:], Bound: -1, Readers: 1, Keepers: 1})
	}
	return p
}

// told is what the calls answer of a plan. A list of flows is written as their digits, an empty one and no flow as `-`; sources, ahead and behind have a word for each flow.
type told struct{ order, sources, ahead, behind, external string }

// digits writes a list of flows.
func digits(l []int) string {
	if len(l) == 0 {
		return "-"
	}
	var b []byte
	for _, i := range l {
		b = strconv.AppendInt(b, int64(i), 10)
	}
	return string(b)
}

// orderOf writes what Order answers.
func orderOf(t *testing.T, p api.Plan) string {
	t.Helper()
	l, e := graph.Order(p)
	switch {
	case e == api.ErrLoop && len(l) == 0:
		return "loop"
	case e != api.OK:
		t.Errorf("Order(%v) = %v, %d", p, l, e)
	}
	return digits(l)
}

// wordsOf writes what a call answers for each flow.
func wordsOf(t *testing.T, p api.Plan, what string, call func(api.Plan, int) ([]int, api.Errno)) string {
	t.Helper()
	var words []string
	for i := range p.Flows {
		l, e := call(p, i)
		if e != api.OK {
			t.Errorf("%s(%v, %d) = %v, %d", what, p, i, l, e)
		}
		words = append(words, digits(l))
	}
	return strings.Join(words, " ")
}

// sourceList is Source, with a list of its flow, or of none.
func sourceList(p api.Plan, i int) ([]int, api.Errno) {
	s, e := graph.Source(p, i)
	if s == -1 {
		return nil, e
	}
	return []int{s}, e
}

// tell writes what all calls answer of a plan in which Check finds no error.
func tell(t *testing.T, p api.Plan) told {
	t.Helper()
	names, e := graph.External(p)
	if e != api.OK {
		t.Errorf("External(%v) = %v, %d", p, names, e)
	}
	return told{orderOf(t, p), wordsOf(t, p, "Source", sourceList), wordsOf(t, p, "Ahead", graph.Ahead), wordsOf(t, p, "Behind", graph.Behind), strings.Join(names, " ")}
}

// checkTold reports a plan of which the calls answer something else.
func checkTold(t *testing.T, what string, p api.Plan, want told) {
	t.Helper()
	if got := tell(t, p); got != want {
		t.Errorf("%s: %+v, want %+v", what, got, want)
	}
}

func checkOrder(t *testing.T, p api.Plan, want ...int) {
	t.Helper()
	if l, e := graph.Order(p); !slices.Equal(l, want) || e != api.OK {
		t.Errorf("Order = %v, %d, want %v", l, e, want)
	}
}

func checkList(t *testing.T, what string, got []int, e api.Errno, want ...int) {
	t.Helper()
	if !slices.Equal(got, want) || e != api.OK {
		t.Errorf("%s = %v, %d, want %v", what, got, e, want)
	}
}

func checkSource(t *testing.T, p api.Plan, i, want int, wantErrno api.Errno) {
	t.Helper()
	if s, e := graph.Source(p, i); s != want || e != wantErrno {
		t.Errorf("Source(%d) = %d, %d, want %d, %d", i, s, e, want, wantErrno)
	}
}

func TestExamples(t *testing.T) {
	p := links("acde", "ac", "cd", "ae")
	checkOrder(t, p, 0, 1, 2)
	checkSource(t, p, 0, -1, api.OK)
	checkSource(t, p, 1, 0, api.OK)
	checkSource(t, p, 2, -1, api.OK)
	l, e := graph.Ahead(p, 1)
	checkList(t, "Ahead(1)", l, e, 0)
	l, e = graph.Behind(p, 0)
	checkList(t, "Behind(0)", l, e, 1)
	if names, e := graph.External(p); !slices.Equal(names, []string{"a"}) || e != api.OK {
		t.Errorf("External = %q, %d", names, e)
	}
	checkSource(t, p, 3, 0, api.ErrArg)

	checkOrder(t, links("acde", "cd", "ac"), 1, 0)

	p = links("acde", "ac", "ca")
	if l, e := graph.Order(p); len(l) != 0 || e != api.ErrLoop {
		t.Errorf("Order = %v, %d, want ErrLoop", l, e)
	}
	l, e = graph.Ahead(p, 0)
	checkList(t, "Ahead(0)", l, e, 0, 1)
}

func TestPlansWithoutAFlow(t *testing.T) { // P6.1, P6.2
	checkTold(t, "nothing", api.Plan{}, told{order: "-"})
	checkTold(t, "empty lists", api.Plan{Topics: []api.Topic{}, Flows: []api.Flow{}}, told{order: "-"})
	checkTold(t, "a topic", links("a"), told{order: "-", external: "a"})
	checkTold(t, "topics", links("badc"), told{order: "-", external: "b a d c"})
	for _, p := range []api.Plan{{}, links("a"), links("badc")} {
		for _, i := range []int{-1, 0, 1} {
			checkNoFlow(t, p, i)
		}
	}
}

func TestOneFlow(t *testing.T) { // P6.1, P6.2
	checkTold(t, "one flow", links("ab", "ab"), told{"0", "-", "-", "-", "a"})
	checkTold(t, "the other way", links("ab", "ba"), told{"0", "-", "-", "-", "b"})
	checkTold(t, "among other topics", links("dacb", "ab"), told{"0", "-", "-", "-", "d a c"})
}

func TestChains(t *testing.T) { // P6.1, P6.2: in the order of their numbers and in other orders
	checkTold(t, "012", links("abcd", "ab", "bc", "cd"), told{"012", "- 0 1", "- 0 01", "12 2 -", "a"})
	checkTold(t, "021", links("abcd", "ab", "cd", "bc"), told{"021", "- 2 0", "- 02 0", "12 - 1", "a"})
	checkTold(t, "102", links("abcd", "bc", "ab", "cd"), told{"102", "1 - 0", "1 - 01", "2 02 -", "a"})
	checkTold(t, "120", links("abcd", "cd", "ab", "bc"), told{"120", "2 - 1", "12 - 1", "- 02 0", "a"})
	checkTold(t, "201", links("abcd", "bc", "cd", "ab"), told{"201", "2 0 -", "2 02 -", "1 - 01", "a"})
	checkTold(t, "210", links("abcd", "cd", "bc", "ab"), told{"210", "1 2 -", "12 2 -", "- 0 01", "a"})
	checkTold(t, "two chains", links("abcwxy", "bc", "xy", "ab", "wx"), told{"2031", "2 3 - -", "2 3 - -", "- - 0 1", "a w"})
}

func TestSharedTopics(t *testing.T) { // P6.1, P6.2: several flows read one
	checkTold(t, "one from outside", links("abcd", "ab", "ac", "ad"), told{"012", "- - -", "- - -", "- - -", "a"})
	checkTold(t, "what the first writes", links("abcde", "ab", "bc", "bd", "be"), told{"0123", "- 0 0 0", "- 0 0 0", "123 - - -", "a"})
	checkTold(t, "what the last writes", links("abcde", "bc", "bd", "be", "ab"), told{"3012", "3 3 3 -", "3 3 3 -", "- - - 012", "a"})
	checkTold(t, "a tree", links("abcdefgh", "dh", "bd", "cf", "ac", "be", "ab", "cg"), told{"3251046", "1 5 3 - 5 - 3", "15 5 3 - 5 - 3", "- 0 - 26 - 014 -", "a"})
}

func TestApartFlows(t *testing.T) { // P6.1, P6.2: none depends on another one
	checkTold(t, "all apart", links("abcdefgh", "gh", "ef", "cd", "ab"), told{"0123", "- - - -", "- - - -", "- - - -", "a c e g"})
	checkTold(t, "one beside a chain", links("abcxy", "xy", "bc", "ab"), told{"021", "- 2 -", "- 2 -", "- - 1", "a x"})
}

func TestTheLeastNumberIsNext(t *testing.T) { // P6.1: not what a flow feeds, not what has waited longest
	checkTold(t, "1 is ready before 2", links("abcxy", "bc", "xy", "ab"), told{"120", "2 - -", "2 - -", "- - 0", "a x"})
	checkTold(t, "what became ready goes ahead", links("abcxyz", "ab", "bc", "xy", "cz"), told{"0123", "- 0 - 1", "- 0 - 01", "13 3 - -", "a x"})
	checkTold(t, "2 makes 0 ready, 3 waits", links("abcdwxyz", "bc", "wx", "ab", "wy", "cd", "xz"), told{"120345", "2 - - - 0 1", "2 - - - 02 1", "4 5 04 - - -", "a w"})
	checkTold(t, "levels do not count", links("abcdxy", "xy", "bc", "cd", "ab"), told{"0312", "- 3 1 -", "- 3 13 -", "- 2 - 12", "a x"})
}

// chain returns a plan in which the flows are a chain in this order.
func chain(order ...int) api.Plan {
	flows := make([]string, len(order))
	for at, i := range order {
		flows[i] = "abcdefghi"[at : at+2]
	}
	return links("abcdefghi", flows...)
}

func TestTheMostFlows(t *testing.T) { // P6.1, P6.2: 8
	checkTold(t, "a chain", chain(0, 1, 2, 3, 4, 5, 6, 7), told{"01234567", "- 0 1 2 3 4 5 6", "- 0 01 012 0123 01234 012345 0123456", "1234567 234567 34567 4567 567 67 7 -", "a"})
	checkTold(t, "a chain back", chain(7, 6, 5, 4, 3, 2, 1, 0), told{"76543210", "1 2 3 4 5 6 7 -", "1234567 234567 34567 4567 567 67 7 -", "- 0 01 012 0123 01234 012345 0123456", "a"})
	checkTold(t, "a chain to and fro", chain(3, 7, 0, 5, 2, 6, 1, 4), told{"37052614", "7 6 5 - 1 0 2 3", "37 023567 0357 - 0123567 037 02357 3", "12456 4 146 0124567 - 1246 14 012456", "a"})
	checkTold(t, "all of one topic", links("abcdefghi", "ab", "ac", "ad", "ae", "af", "ag", "ah", "ai"), told{"01234567", "- - - - - - - -", "- - - - - - - -", "- - - - - - - -", "a"})
	checkTold(t, "all of the last one", links("abcdefghi", "bc", "bd", "be", "bf", "bg", "bh", "bi", "ab"), told{"70123456", "7 7 7 7 7 7 7 -", "7 7 7 7 7 7 7 -", "- - - - - - - 0123456", "a"})
	checkTold(t, "all apart", links("abcdefghijklmnop", "ab", "cd", "ef", "gh", "ij", "kl", "mn", "op"), told{"01234567", "- - - - - - - -", "- - - - - - - -", "- - - - - - - -", "a c e g i k m o"})
}

func TestChainsOfAllInEveryOrder(t *testing.T) { // P6.1: Order has no choice
	var extend func(l []int)
	extend = func(l []int) {
		if len(l) == maxFlows {
			if got := orderOf(t, chain(l...)); got != digits(l) {
				t.Fatalf("Order of the chain %v = %s", l, got)
			}
			return
		}
		for i := range maxFlows {
			if !slices.Contains(l, i) {
				extend(append(l, i))
			}
		}
	}
	extend(nil)
}

func TestExternal(t *testing.T) { // P6.2: in the order of the plan, whether a flow reads them or not
	for _, c := range []struct {
		topics string
		flows  []string
		want   string
	}{
		{"zyxa", nil, "z y x a"},
		{"zyxa", []string{"zx"}, "z y a"},
		{"zyxa", []string{"ay"}, "z x a"},
		{"zyxa", []string{"ay", "az"}, "x a"},
		{"zyxa", []string{"ay", "yz", "zx"}, "a"},
		{"zyxa", []string{"zy", "yx", "xz"}, "a"},
		{"zyxa", []string{"zy", "yx", "xa", "az"}, ""}, // all are written: there must be a loop
		{"zy", []string{"zy", "yz"}, ""},
		{"ponmlkjihgfedcba", []string{"po", "pm"}, "p n l k j i h g f e d c b a"},
		{"ponmlkjihgfedcba", []string{"ap", "an", "al", "aj", "ah", "af", "ad", "ab"}, "o m k i g e c a"},
	} {
		if names, e := graph.External(links(c.topics, c.flows...)); strings.Join(names, " ") != c.want || e != api.OK {
			t.Errorf("External of %s, %v = %q, %d, want %s", c.topics, c.flows, names, e, c.want)
		}
	}
}

func TestNamesOfFlowsDoNotCount(t *testing.T) { // P6.1, P6.2: it is the topics that lead from one to another
	p := links("abcd", "ab", "bc", "cd")
	for _, l := range [][]string{{"b", "c", "d"}, {"c", "b", "a"}, {"a", "d", "b"}, {"d", "a", "c"}} {
		for i, name := range l {
			p.Flows[i].Name = name
		}
		checkTold(t, "names of topics", p, told{"012", "- 0 1", "- 0 01", "12 2 -", "a"})
	}
}

func TestNamesAreWhole(t *testing.T) { // P6.2: one that is part of another one is another topic
	p := links("", "ab", "bc", "cd")
	names := []string{"a", "aa", "a-", "a-a-a-a-a-a-a-a-"}
	for _, s := range names {
		p.Topics = append(p.Topics, api.Topic{Name: s, Parts: 16})
	}
	for i := range p.Flows {
		p.Flows[i].From, p.Flows[i].To = names[0], names[i+1]
	}
	checkTold(t, "all read a", p, told{"012", "- - -", "- - -", "- - -", "a"})
	p.Flows[0].From = names[3]
	checkTold(t, "the first reads the longest", p, told{"120", "2 - -", "2 - -", "- - 0", "a"})
}

func TestTheRestOfAFlowDoesNotCount(t *testing.T) { // P6.1, P6.2: its window, its steps, its readers and keepers
	for seed := range uint64(2000) {
		s := rand.New(rand.NewPCG(seed, 61))
		p := somePlan(s)
		bare := links("")
		bare.Topics = p.Topics
		for i, f := range p.Flows {
			bare.Flows = append(bare.Flows, api.Flow{Name: "x" + strconv.Itoa(i), From: f.From, To: f.To, Bound: -1, Readers: 1, Keepers: 1})
		}
		checkTold(t, "a bare plan", bare, tell(t, p))
	}
}
