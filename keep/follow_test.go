package keep_test

import (
	"cmp"
	"maps"
	"slices"
	"testing"

	"watershed/api"
	"watershed/groups"
	"watershed/keep"
)

// tally is what records make if nothing is ever emitted: a pane for each key and span, with the values of the records in it.
func tally(w api.Window, l []api.Record) []api.Pane {
	if w.Kind == api.WinSession {
		return tallySessions(w.Size, l)
	}
	type place struct {
		key  string
		span api.Span
	}
	values := map[place][]int{}
	for _, r := range l {
		for _, span := range secondSpans(w, r.Time) {
			at := place{r.Key, span}
			values[at] = append(values[at], r.Value)
		}
	}
	var panes []api.Pane
	for at, v := range values {
		panes = append(panes, pane(at.key, at.span.From, at.span.To, v...))
	}
	return ordered(panes...)
}

// tallySessions parts the records of each key, in the order of their times, where the next one is a gap or more behind.
func tallySessions(gap int, l []api.Record) []api.Pane {
	of := map[string][]api.Record{}
	for _, r := range l {
		of[r.Key] = append(of[r.Key], r)
	}
	var panes []api.Pane
	for _, key := range slices.Sorted(maps.Keys(of)) {
		l := of[key]
		slices.SortFunc(l, func(a, b api.Record) int { return cmp.Compare(a.Time, b.Time) })
		first := 0
		for i := 1; i <= len(l); i++ {
			if i < len(l) && l[i].Time < l[i-1].Time+gap {
				continue
			}
			var values []int
			for _, r := range l[first:i] {
				values = append(values, r.Value)
			}
			panes = append(panes, pane(key, l[first].Time, l[i-1].Time+gap, values...))
			first = i
		}
	}
	return panes
}

// checkTally holds what a keep has emitted so far and what is open to the records that it has taken.
func checkTally(t *testing.T, k *keep.Keep, w api.Window, agg int, taken, emitted []api.Record) {
	t.Helper()
	var due, open []api.Pane
	for _, p := range tally(w, taken) {
		if secondDue(p.Span, k.At()) {
			due = append(due, p)
		} else {
			open = append(open, p)
		}
	}
	if want := secondResults(due, agg); !slices.Equal(emitted, want) {
		t.Fatalf("%v, %d, of %v: emitted %v, want %v", w, agg, taken, emitted, want)
	}
	checkOpen(t, k, open...)
	if t.Failed() {
		t.Fatalf("%v, %d, of %v", w, agg, taken)
	}
}

func TestEveryRecordCountsOnce(t *testing.T) { // P11.7: in each of its spans, in a pane that is open or was emitted
	s := newSource(5)
	late, put := 0, 0
	for range 3000 {
		w, agg := s.window(), s.agg()
		k := made(t, w, agg)
		var taken, emitted []api.Record
		for range s.IntN(60) {
			if s.IntN(4) == 0 {
				l, e := k.Mark(min(forever, k.At()+s.IntN(w.Size+3)))
				emitted = append(emitted, l...)
				if e != api.OK {
					t.Fatalf("Mark returns %d", e)
				}
				checkTally(t, k, w, agg, taken, emitted)
				continue
			}
			r := s.record(w, k.At())
			e := api.ErrLate
			if r.Time >= k.At() {
				e = api.OK
				taken = append(taken, r)
				put++
			} else {
				late++
			}
			checkPut(t, k, r, nil, e)
		}
		checkTally(t, k, w, agg, taken, emitted)
		l, _ := k.Mark(forever)
		checkTally(t, k, w, agg, taken, append(emitted, l...))
		checkOpen(t, k)
	}
	if late < 1000 || put < 10000 {
		t.Errorf("only %d records are late, %d are not", late, put)
	}
}

func TestRecordsWithoutWindowsCountOnce(t *testing.T) { // P11.7: each one that is not late is returned, and nothing else
	s := newSource(6)
	k := made(t, none(), 0)
	for range 2000 {
		if s.IntN(4) == 0 {
			checkMark(t, k, k.At()+s.IntN(3), nil, api.OK)
		}
		r := rec(s.key(), max(0, k.At()-3+s.IntN(8)), s.value())
		if r.Time < k.At() {
			checkPut(t, k, r, nil, api.ErrLate)
		} else {
			checkPut(t, k, r, recs(r), api.OK)
		}
		checkOpen(t, k)
	}
}

func TestOrderBetweenMarks(t *testing.T) { // P11.7: makes no difference, to what is emitted nor to what is saved
	s := newSource(7)
	for range 400 {
		w, agg := s.window(), s.agg()
		keeps := []*keep.Keep{made(t, w, agg), made(t, w, agg), made(t, w, agg), made(t, w, agg)}
		for range 1 + s.IntN(5) {
			var l []api.Record
			for range s.IntN(15) {
				l = append(l, s.record(w, keeps[0].At()))
			}
			at := min(forever, keeps[0].At()+s.IntN(2*w.Size+2))
			first := make([][]byte, nGroups)
			var results []api.Record
			for i, k := range keeps {
				for _, r := range l {
					k.Put(r)
				}
				if i == 0 {
					for g := range nGroups {
						first[g], _ = k.Save(g)
					}
					results, _ = k.Mark(at)
				} else {
					for g := range nGroups {
						checkSave(t, k, g, first[g], api.OK)
					}
					checkMark(t, k, at, results, api.OK)
				}
				checkOpen(t, k, keeps[0].Open()...)
				s.Shuffle(len(l), func(i, n int) { l[i], l[n] = l[n], l[i] })
			}
			if t.Failed() {
				t.Fatalf("%v, %d, of %v", w, agg, l)
			}
		}
	}
}

func TestEveryOrderOfAFewRecords(t *testing.T) { // P11.7
	s := newSource(8)
	for range 200 {
		w := s.window()
		var l []api.Record
		for range 5 {
			l = append(l, rec("a", s.IntN(3*w.Size), s.value()))
		}
		want := tally(w, l)
		var next func(i int)
		next = func(i int) {
			if i == len(l) {
				k := made(t, w, api.AggMin)
				put(t, k, l...)
				checkOpen(t, k, want...)
				return
			}
			for n := i; n < len(l); n++ {
				l[i], l[n] = l[n], l[i]
				next(i + 1)
				l[i], l[n] = l[n], l[i]
			}
		}
		next(0)
		if t.Failed() {
			t.Fatalf("%v, of %v", w, l)
		}
	}
}

func TestForeverLeavesNoPanes(t *testing.T) { // P11.7
	s := newSource(9)
	for range 1000 {
		w := s.window()
		k := made(t, w, api.AggSum)
		for range 10 {
			put(t, k, rec(s.key(), max(0, maxTime-s.IntN(5*w.Size)), 1), rec(s.key(), s.IntN(maxTime+1), 1))
		}
		k.Mark(forever)
		checkOpen(t, k)
		for g := range nGroups {
			checkSave(t, k, g, encode(g, forever), api.OK)
		}
		for _, time := range []int{0, s.IntN(maxTime), maxTime} {
			checkPut(t, k, rec(s.key(), time, 1), nil, api.ErrLate)
		}
		checkMark(t, k, forever, nil, api.OK)
	}
}

// shares are several keeps, each with some groups.
type shares struct {
	keeps []*keep.Keep
	owner [nGroups]int
}

// spread loads all groups of shares into n new keeps: as keepers own them, or as they come.
func (s source) spread(t *testing.T, from shares, w api.Window, agg, n int) shares {
	t.Helper()
	var to shares
	for range n {
		to.keeps = append(to.keeps, made(t, w, agg))
	}
	order := s.Perm(nGroups)
	anyhow := s.IntN(2) == 0
	for _, g := range order {
		to.owner[g] = g * n / nGroups
		if owner, e := groups.Owner(g, n); e == api.OK {
			to.owner[g] = owner
		}
		if anyhow {
			to.owner[g] = s.IntN(n)
		}
		b, e := from.of(g).Save(g)
		if e != api.OK {
			t.Fatalf("Save(%d) returns %d", g, e)
		}
		checkLoad(t, to.of(g), b, api.OK)
	}
	return to
}

func (l shares) of(group int) *keep.Keep {
	return l.keeps[l.owner[group]]
}

func (l shares) put(r api.Record) ([]api.Record, api.Errno) {
	return l.of(secondGroup(r.Key)).Put(r)
}

// mark marks all keeps, and returns what all of them emit.
func (l shares) mark(t *testing.T, at int) []api.Record {
	t.Helper()
	var all []api.Record
	for _, k := range l.keeps {
		some, e := k.Mark(at)
		if e != api.OK {
			t.Fatalf("Mark(%d) returns %d", at, e)
		}
		all = append(all, some...)
	}
	return together(all)
}

// together puts records into an order that hangs on nothing but them.
func together(l []api.Record) []api.Record {
	l = slices.Clone(l)
	slices.SortFunc(l, func(a, b api.Record) int {
		return cmp.Or(cmp.Compare(a.Time, b.Time), cmp.Compare(a.Key, b.Key), cmp.Compare(a.Value, b.Value))
	})
	return l
}

func (l shares) open() []api.Pane {
	var all []api.Pane
	for _, k := range l.keeps {
		all = append(all, k.Open()...)
	}
	return ordered(all...)
}

// goOn gives the same records and marks to a keep and to shares of it, and holds what they tell against one another.
func (s source) goOn(t *testing.T, k *keep.Keep, l shares, w api.Window, steps int) {
	t.Helper()
	for range steps {
		if s.IntN(4) == 0 {
			at := min(forever, k.At()+s.IntN(w.Size+3))
			want, _ := k.Mark(at)
			if got := l.mark(t, at); !slices.Equal(got, together(want)) {
				t.Fatalf("%v: %d keeps emit %v at %d, want %v", w, len(l.keeps), got, at, want)
			}
			continue
		}
		r := s.record(w, k.At())
		want, e := k.Put(r)
		if got, err := l.put(r); !slices.Equal(got, want) || err != e {
			t.Fatalf("%v: of %d keeps, Put(%v) = %v, %d, want %v, %d", w, len(l.keeps), r, got, err, want, e)
		}
	}
	if got, want := l.open(), k.Open(); !slices.Equal(got, want) {
		t.Fatalf("%v: %d keeps have the panes %v, want %v", w, len(l.keeps), got, want)
	}
	for g := range nGroups {
		want, _ := k.Save(g)
		checkSave(t, l.of(g), g, want, api.OK)
	}
}

func TestGroupsGoOnElsewhere(t *testing.T) { // P11.8: in one, two, three and 16 keeps, and again in others
	s := newSource(10)
	for i := range 1500 {
		w, agg := s.window(), s.agg()
		if i%20 == 0 {
			w, agg = none(), 0
		}
		k := made(t, w, agg)
		alone := shares{keeps: []*keep.Keep{k}}
		for range s.IntN(30) {
			if s.IntN(4) == 0 {
				k.Mark(k.At() + s.IntN(w.Size+3))
			} else {
				k.Put(s.record(w, k.At()))
			}
		}
		n := []int{1, 2, 3, 16}[i%4]
		l := s.spread(t, alone, w, agg, n)
		s.goOn(t, k, l, w, s.IntN(30))
		for range s.IntN(3) { // those that hold the groups are saved in turn
			l = s.spread(t, l, w, agg, 1+s.IntN(16))
			s.goOn(t, k, l, w, s.IntN(20))
		}
		want, _ := k.Mark(forever)
		if got := l.mark(t, forever); !slices.Equal(got, together(want)) {
			t.Fatalf("%v: %d keeps emit %v at the end, want %v", w, n, got, want)
		}
		if t.Failed() {
			t.FailNow()
		}
	}
}

func TestGroupsOfAFreshKeep(t *testing.T) { // P11.8: nothing was put yet
	s := newSource(11)
	for _, w := range windows {
		for _, n := range []int{1, 2, 3, 16} {
			k := made(t, w, anAgg(w))
			l := s.spread(t, shares{keeps: []*keep.Keep{k}}, w, anAgg(w), n)
			s.goOn(t, k, l, w, 60)
		}
	}
}

func TestSomeGroupsGoOnTogetherWithNewOnes(t *testing.T) { // P11.5, P11.8: a keep that has records of its own, at the same mark
	for _, w := range windows[1:] {
		k, other := made(t, w, api.AggSum), made(t, w, api.AggSum)
		s, _ := newSecond(w, api.AggSum)
		for _, to := range []*keep.Keep{k, other} {
			checkMark(t, to, 20, nil, api.OK)
		}
		s.setMark(20)
		for i, key := range []string{"a", "b", x, "", "a", "c"} { // groups 12, 5, 12, 5, 12, 2
			r := rec(key, 20+i, i)
			s.put(r)
			if secondGroup(key) == 12 {
				put(t, k, r)
			} else {
				put(t, other, r)
			}
		}
		b, _ := k.Save(12)
		checkLoad(t, other, b, api.OK)
		checkSame(t, other, s)
	}
}
