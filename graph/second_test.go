package graph_test

import (
	"math/rand/v2"
	"slices"
	"strconv"
	"strings"

	"watershed/api"
)

// This file reads the chapter a second time, by other means than the program's, to hold many plans against it.

// matrix tells of each flow, in its row, on which ones it depends.
type matrix [maxFlows][maxFlows]bool

// dependencies returns the matrix of a plan: who reads what another one writes, and then whatever follows, until nothing is new.
func dependencies(p api.Plan) matrix {
	var m matrix
	for i, f := range p.Flows {
		for k, g := range p.Flows {
			m[i][k] = f.From == g.To
		}
	}
	for {
		before := m
		for i := range m {
			for k := range m {
				for l := range m {
					m[i][k] = m[i][k] || m[i][l] && m[l][k]
				}
			}
		}
		if m == before {
			return m
		}
	}
}

// second returns what the calls must answer of a plan.
func second(p api.Plan) told {
	m := dependencies(p)
	var sources, ahead, behind, names []string
	for i, f := range p.Flows {
		var s, a, b []int
		for k, g := range p.Flows {
			if g.To == f.From {
				s = append(s, k)
			}
			if m[i][k] {
				a = append(a, k)
			}
			if m[k][i] {
				b = append(b, k)
			}
		}
		sources, ahead, behind = append(sources, digits(s)), append(ahead, digits(a)), append(behind, digits(b))
	}
	for _, t := range p.Topics {
		if !slices.ContainsFunc(p.Flows, func(f api.Flow) bool { return f.To == t.Name }) {
			names = append(names, t.Name)
		}
	}
	return told{secondOrder(m, len(p.Flows)), strings.Join(sources, " "), strings.Join(ahead, " "), strings.Join(behind, " "), strings.Join(names, " ")}
}

// secondOrder returns what Order must answer of n flows.
func secondOrder(m matrix, n int) string {
	for i := range m {
		if m[i][i] {
			return "loop"
		}
	}
	var l []int
	for len(l) < n {
		for i := range n {
			if !slices.Contains(l, i) && isAfterItsOwn(m, l, i) {
				l = append(l, i)
				break
			}
		}
	}
	return digits(l)
}

// isAfterItsOwn tells whether the flow i depends only on those in l.
func isAfterItsOwn(m matrix, l []int, i int) bool {
	for k, on := range m[i] {
		if on && !slices.Contains(l, k) {
			return false
		}
	}
	return true
}

// everyShape gives do a plan for each way in which n flows may depend on one another: each reads what one of the others writes, or a topic from outside.
func everyShape(n int, do func(p api.Plan)) {
	var flows []string
	var extend func()
	extend = func() {
		i := len(flows)
		if i == n {
			do(links("xabcdefgh", flows...))
			return
		}
		for _, from := range "x" + "abcdefgh"[:n] {
			if to := rune("abcdefgh"[i]); from != to {
				flows = append(flows, string(from)+string(to))
				extend()
				flows = flows[:i]
			}
		}
	}
	extend()
}

// oneOf returns one of some values.
func oneOf[T any](s *rand.Rand, l ...T) T {
	return l[s.IntN(len(l))]
}

// somePlan returns a plan in which Check finds no error: the fewer topics it has, the more of its flows depend on others.
func somePlan(s *rand.Rand) api.Plan {
	var p api.Plan
	flows := s.IntN(maxFlows + 1)
	topics := max(2, flows) + s.IntN(maxTopics+1-max(2, flows))
	for i := range topics {
		p.Topics = append(p.Topics, api.Topic{Name: "t" + strings.Repeat("-", s.IntN(14)) + strconv.Itoa(i), Parts: 1 + s.IntN(maxParts)})
	}
	writes := s.Perm(topics)[:flows]
	for _, to := range writes {
		p.Topics[to].Parts = maxParts
	}
	names := s.Perm(flows)
	for i, to := range writes {
		from := s.IntN(topics - 1)
		if from >= to {
			from++
		}
		f := api.Flow{Name: "t" + strconv.Itoa(names[i]), From: p.Topics[from].Name, To: p.Topics[to].Name, Bound: -1, Keepers: 1 + s.IntN(maxSub)}
		f.Readers = 1 + s.IntN(min(maxSub, p.Topics[from].Parts))
		if !slices.Contains(writes, from) {
			f.Bound = oneOf(s, -1, 0, s.IntN(maxBound+1), maxBound)
		}
		p.Flows = append(p.Flows, furnish(s, f))
	}
	return p
}

// furnish gives a flow steps and perhaps a window.
func furnish(s *rand.Rand, f api.Flow) api.Flow {
	steps := func() []api.Step {
		var l []api.Step
		for range s.IntN(3) {
			l = append(l, api.Step{Kind: oneOf(s, api.StepFilter, api.StepSet), Text: oneOf(s, "v", "v > 0", "t % 10")})
		}
		return l
	}
	f.Pre = steps()
	if s.IntN(2) == 0 {
		f.Win = oneOf(s, api.Window{Kind: api.WinTumble, Size: 10}, api.Window{Kind: api.WinSlide, Size: 10, Slide: 5}, api.Window{Kind: api.WinSession, Size: 7})
		f.Agg = oneOf(s, api.AggCount, api.AggSum, api.AggMin, api.AggMax)
		f.Post = steps()
	}
	return f
}
