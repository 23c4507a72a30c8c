package graph_test

import (
	"testing"

	"watershed/api"
	"watershed/graph"
	"watershed/plan"
)

func TestLoops(t *testing.T) { // P6.1, P6.2: of two flows, of three, of all; each is contained in its own Ahead and Behind
	checkTold(t, "two", links("ab", "ab", "ba"), told{"loop", "1 0", "01 01", "01 01", ""})
	checkTold(t, "two, and a topic", links("abx", "ba", "ab"), told{"loop", "1 0", "01 01", "01 01", "x"})
	checkTold(t, "three", links("abc", "ab", "bc", "ca"), told{"loop", "2 0 1", "012 012 012", "012 012 012", ""})
	checkTold(t, "three the other way", links("abc", "ab", "ca", "bc"), told{"loop", "1 2 0", "012 012 012", "012 012 012", ""})
	all := "01234567 01234567 01234567 01234567 01234567 01234567 01234567 01234567"
	checkTold(t, "all", links("abcdefgh", "ab", "bc", "cd", "de", "ef", "fg", "gh", "ha"), told{"loop", "7 0 1 2 3 4 5 6", all, all, ""})
	checkTold(t, "all, to and fro", links("abcdefgh", "ad", "db", "bg", "gc", "cf", "fh", "he", "ea"), told{"loop", "7 0 1 2 3 4 5 6", all, all, ""})
}

func TestTwoLoops(t *testing.T) { // P6.1, P6.2: they have nothing to do with each other
	checkTold(t, "of two", links("abcd", "ab", "cd", "ba", "dc"), told{"loop", "2 3 0 1", "02 13 02 13", "02 13 02 13", ""})
	checkTold(t, "of two and of three", links("abcdex", "ab", "cd", "ba", "de", "ec"), told{"loop", "2 4 0 1 3", "02 134 02 134 134", "02 134 02 134 134", "x"})
}

func TestFlowsThatDependOnALoop(t *testing.T) { // P6.1, P6.2: without being in it
	checkTold(t, "one", links("abc", "ab", "ba", "bc"), told{"loop", "1 0 0", "01 01 01", "012 012 -", ""})
	checkTold(t, "the first flow", links("abc", "bc", "ab", "ba"), told{"loop", "1 2 1", "12 12 12", "- 012 012", ""})
	checkTold(t, "a chain", links("abcde", "de", "ab", "cd", "ba", "ac"), told{"loop", "2 3 4 1 3", "1234 13 134 13 13", "- 01234 0 01234 02", ""})
	checkTold(t, "one each of three", links("abcxyz", "ab", "bc", "ca", "ax", "by", "cz"), told{"loop", "2 0 1 2 0 1", "012 012 012 012 012 012", "012345 012345 012345 - - -", ""})
}

func TestFlowsBesideALoop(t *testing.T) { // P6.1, P6.2: they are as without it, but for Order
	checkTold(t, "one", links("abxy", "xy", "ab", "ba"), told{"loop", "- 2 1", "- 12 12", "- 12 12", "x"})
	checkTold(t, "a chain", links("abxyz", "yz", "ab", "xy", "ba"), told{"loop", "2 3 - 1", "2 13 - 13", "- 13 0 13", "x"})
}

func TestFlowsThatALoopDependsOn(t *testing.T) { // P6.2: they are all in it, because a topic is written once
	for i := range 3 {
		p := links("abcx", "ab", "bc", "ca")
		p.Flows = append(p.Flows, api.Flow{Name: "g", From: "x", To: p.Flows[i].From, Bound: -1, Readers: 1, Keepers: 1})
		checkFault(t, "a flow into a loop", p, api.ErrTopic)
	}
	checkShapes(t, func(p api.Plan) {
		for i := range p.Flows {
			ahead, _ := graph.Ahead(p, i)
			if !contains(ahead, i) {
				continue
			}
			for _, k := range ahead {
				if other, _ := graph.Ahead(p, k); digits(other) != digits(ahead) {
					t.Errorf("%v: Ahead(%d) = %v, but Ahead(%d) = %v", p, i, ahead, k, other)
				}
			}
		}
	})
}

func TestAFlowThatReadsWhatItWrites(t *testing.T) { // P6.1: Check has no such plan
	p := links("ab", "aa")
	if _, e := plan.Check(p); e != api.ErrTopic {
		t.Errorf("Check = %d", e)
	}
	checkFault(t, "a loop of one", p, api.ErrTopic)
}
