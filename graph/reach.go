package graph

import (
	"maps"
	"slices"

	"watershed/api"
)

// none stands where there is no flow.
const none = -1

// feeds tells whether the flow f writes what the flow g reads.
func feeds(f, g api.Flow) bool {
	return f.To == g.From
}

// sourceOf returns the flow that writes what flow i reads, or none. There is at most one, because plan.Check lets a topic be written once.
func sourceOf(flows []api.Flow, i int) int {
	for k, f := range flows {
		if feeds(f, flows[i]) {
			return k
		}
	}
	return none
}

// firstReady returns the first flow that is not listed and depends only on listed ones, or none. A source is listed after all that it depends on, so the flow's own source is enough to look at. If there is none, each flow that is left waits for another one of them: some are in a loop.
func firstReady(flows []api.Flow, listed map[int]struct{}) int {
	for i := range flows {
		if _, ok := listed[i]; ok {
			continue
		}
		source := sourceOf(flows, i)
		if _, ok := listed[source]; ok || source == none {
			return i
		}
	}
	return none
}

// reach returns, in increasing order, the flows to which one step or more lead from the flow start: start itself only if it is in a loop.
func reach(flows []api.Flow, start int, leads func(from, to api.Flow) bool) []int {
	visited := map[int]struct{}{}
	var visit func(i int)
	visit = func(i int) {
		for k := range flows {
			if _, ok := visited[k]; ok || !leads(flows[i], flows[k]) {
				continue
			}
			visited[k] = struct{}{}
			visit(k)
		}
	}
	visit(start)
	return slices.Sorted(maps.Keys(visited))
}
