package keep_test

import (
	"testing"

	"watershed/api"
	"watershed/keep"
)

// sessions returns a keep with a gap of 5, and records at these times with values equal to them.
func sessions(t *testing.T, key string, times ...int) *keep.Keep {
	t.Helper()
	k := made(t, session(5), api.AggSum)
	for _, time := range times {
		put(t, k, rec(key, time, time))
	}
	return k
}

func TestSessionsThatMeet(t *testing.T) { // P11.2: a record that meets no pane, one, or two
	for _, x := range []struct {
		times []int
		want  []api.Pane
	}{
		{[]int{10}, []api.Pane{pane("a", 10, 15, 10)}},
		{[]int{10, 10}, []api.Pane{pane("a", 10, 15, 10, 10)}},
		{[]int{10, 14}, []api.Pane{pane("a", 10, 19, 10, 14)}},                    // one time in common, 14
		{[]int{10, 6}, []api.Pane{pane("a", 6, 15, 10, 6)}},                       // one time in common, 10
		{[]int{10, 15}, []api.Pane{pane("a", 10, 15, 10), pane("a", 15, 20, 15)}}, // they only touch
		{[]int{10, 5}, []api.Pane{pane("a", 5, 10, 5), pane("a", 10, 15, 10)}},    // they only touch
		{[]int{10, 16}, []api.Pane{pane("a", 10, 15, 10), pane("a", 16, 21, 16)}}, // none
		{[]int{10, 4}, []api.Pane{pane("a", 4, 9, 4), pane("a", 10, 15, 10)}},     // none
		{[]int{10, 14, 12}, []api.Pane{pane("a", 10, 19, 10, 14, 12)}},            // it lies within a pane
		{[]int{10, 14, 10}, []api.Pane{pane("a", 10, 19, 10, 14, 10)}},            // at its beginning
		{[]int{10, 14, 14}, []api.Pane{pane("a", 10, 19, 10, 14, 14)}},            // at its end
		{[]int{10, 14, 18}, []api.Pane{pane("a", 10, 23, 10, 14, 18)}},            // a pane grows again
		{[]int{10, 18, 14}, []api.Pane{pane("a", 10, 23, 10, 18, 14)}},            // two panes, one time in common with each
		{[]int{10, 19, 14}, []api.Pane{pane("a", 10, 19, 10, 14), pane("a", 19, 24, 19)}},
		{[]int{10, 19, 15}, []api.Pane{pane("a", 10, 15, 10), pane("a", 15, 24, 15, 19)}}, // it touches the first, meets the second
		{[]int{10, 18, 13}, []api.Pane{pane("a", 10, 18, 10, 13), pane("a", 18, 23, 18)}}, // it meets the first, touches the second
		{[]int{10, 20, 15}, []api.Pane{pane("a", 10, 15, 10), pane("a", 15, 20, 15), pane("a", 20, 25, 20)}},
		{[]int{10, 15, 12}, []api.Pane{pane("a", 10, 20, 10, 15, 12)}}, // two that touch one another
		{[]int{10, 15, 10}, []api.Pane{pane("a", 10, 15, 10, 10), pane("a", 15, 20, 15)}},
	} {
		checkOpen(t, sessions(t, "a", x.times...), x.want...)
	}
}

func TestSessionsBesideThoseThatMeet(t *testing.T) { // P11.2: of three or more panes one after the other, a record meets two at most, because each is as long as its own span at least
	k := sessions(t, "a", 0, 5, 10, 15, 20)
	put(t, k, rec("a", 10, 1)) // the same span as one of them: it touches those beside it
	checkOpen(t, k, pane("a", 0, 5, 0), pane("a", 5, 10, 5), pane("a", 10, 15, 10, 1), pane("a", 15, 20, 15), pane("a", 20, 25, 20))
	put(t, k, rec("a", 9, 2)) // two of them
	checkOpen(t, k, pane("a", 0, 5, 0), pane("a", 5, 15, 5, 10, 1, 2), pane("a", 15, 20, 15), pane("a", 20, 25, 20))
	put(t, k, rec("a", 16, 3)) // two of them
	checkOpen(t, k, pane("a", 0, 5, 0), pane("a", 5, 15, 5, 10, 1, 2), pane("a", 15, 25, 15, 20, 3))
	put(t, k, rec("a", 4, 4), rec("a", 14, 5))
	checkOpen(t, k, pane("a", 0, 25, 0, 5, 10, 15, 20, 1, 2, 3, 4, 5))
	checkMark(t, k, 24, nil, api.OK)
	checkMark(t, k, 25, recs(rec("a", 24, 65)), api.OK)
}

func TestSessionsThatWereLoaded(t *testing.T) { // P11.2: panes of any length, of which one record meets two
	k := made(t, session(5), api.AggSum)
	checkLoad(t, k, encode(12, 3, pane("a", 0, 7, 1), pane("a", 7, 20, 2), pane("a", 22, 27, 3), pane("a", 27, 90, 4)), api.OK)
	put(t, k, rec("a", 17, 5)) // touches 22-27
	checkOpen(t, k, pane("a", 0, 7, 1), pane("a", 7, 22, 2, 5), pane("a", 22, 27, 3), pane("a", 27, 90, 4))
	put(t, k, rec("a", 22, 6))
	checkOpen(t, k, pane("a", 0, 7, 1), pane("a", 7, 22, 2, 5), pane("a", 22, 27, 3, 6), pane("a", 27, 90, 4))
	put(t, k, rec("a", 21, 7), rec("a", 23, 8))
	checkOpen(t, k, pane("a", 0, 7, 1), pane("a", 7, 90, 2, 5, 3, 6, 7, 8, 4))
}

func TestSessionsOfOtherKeys(t *testing.T) { // P11.2: the same times of another key make no difference
	k := made(t, session(5), api.AggSum)
	put(t, k, rec("a", 10, 1), rec("b", 12, 2), rec("", 14, 3), rec("aa", 10, 4), rec("b", 16, 5), rec("a", 14, 6), rec("", 18, 7), rec("b", 21, 8))
	checkOpen(t, k, pane("", 14, 23, 3, 7), pane("a", 10, 19, 1, 6), pane("aa", 10, 15, 4), pane("b", 12, 21, 2, 5), pane("b", 21, 26, 8))
}

func TestSessionsAfterAMark(t *testing.T) { // P11.2, P11.3: a pane grows until it is due; what comes then begins a new one
	k := sessions(t, "a", 10)
	checkMark(t, k, 14, nil, api.OK)
	checkPut(t, k, rec("a", 13, 1), nil, api.ErrLate)
	put(t, k, rec("a", 14, 1))
	checkMark(t, k, 15, nil, api.OK)
	checkMark(t, k, 18, nil, api.OK)
	checkMark(t, k, 19, recs(rec("a", 18, 11)), api.OK)
	put(t, k, rec("a", 19, 2))
	checkOpen(t, k, pane("a", 19, 24, 2))
	checkMark(t, k, 24, recs(rec("a", 23, 2)), api.OK)
	checkOpen(t, k)
}

func TestSessionsAtTheEndsOfTime(t *testing.T) { // P11.2: spans that reach beyond the greatest time
	for _, gap := range []int{1, 2, 5, maxSize} {
		k := made(t, session(gap), api.AggCount)
		put(t, k, rec("a", maxTime, 1), rec("a", maxTime, 2), rec("a", maxTime-gap, 3), rec("a", 0, 4), rec("a", gap, 5))
		checkOpen(t, k, pane("a", 0, gap, 4), pane("a", gap, 2*gap, 5), pane("a", maxTime-gap, maxTime, 3), pane("a", maxTime, maxTime+gap, 1, 2))
		if gap > 1 {
			put(t, k, rec("a", maxTime-1, 6))
			checkOpen(t, k, pane("a", 0, gap, 4), pane("a", gap, 2*gap, 5), pane("a", maxTime-gap, maxTime+gap, 1, 2, 3, 6))
		}
	}
}

func TestSessionsWithoutAGap(t *testing.T) { // P11.2: with the least gap, only the same time meets
	k := made(t, session(1), api.AggSum)
	put(t, k, rec("a", 3, 1), rec("a", 4, 2), rec("a", 2, 3), rec("a", 3, 4))
	checkOpen(t, k, pane("a", 2, 3, 3), pane("a", 3, 4, 1, 4), pane("a", 4, 5, 2))
}

func TestMoreSessionsThanOneMergeTakes(t *testing.T) { // P11.2: a key may have any number of panes
	k := made(t, session(2), api.AggCount)
	const n = maxSpans + 1000 // which 5 does not divide, so each time comes once
	for i := range n {
		put(t, k, rec("a", 3*(i*5%n), i))
	}
	if l := k.Open(); len(l) != n {
		t.Fatalf("%d panes, want %d", len(l), n)
	}
	for i := range n - 1 { // 3i and 3i+1 belong to one pane, 3i+3 to the next: both are met
		put(t, k, rec("a", 3*i+1, 1), rec("a", 3*i+2, 1))
	}
	if l := k.Open(); len(l) != 1 || l[0].Span != (api.Span{From: 0, To: 3*n - 1}) || l[0].Acc.Count != 3*n-2 {
		t.Errorf("%d panes, the first one is %v", len(l), l[0])
	}
}

func TestSessionsOfAllFewTimes(t *testing.T) { // P11.2: every row of four times, in every order, against the second reading
	const last = 9
	for gap := 1; gap <= 4; gap++ {
		for n := range last * last * last * last {
			times := []int{n % last, n / last % last, n / last / last % last, n / last / last / last}
			k := made(t, session(gap), api.AggSum)
			s, _ := newSecond(session(gap), api.AggSum)
			for i, time := range times {
				k.Put(rec("a", time, 1<<i))
				s.put(rec("a", time, 1<<i))
			}
			checkOpen(t, k, s.open()...)
			if t.Failed() {
				t.Fatalf("gap %d, times %v", gap, times)
			}
		}
	}
}
