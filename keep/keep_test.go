package keep_test

import (
	"bytes"
	"slices"
	"strings"
	"testing"

	"watershed/api"
	"watershed/keep"
)

func none() api.Window {
	return api.Window{Kind: api.WinNone}
}

func tumble(size int) api.Window {
	return api.Window{Kind: api.WinTumble, Size: size}
}

func slide(size, slide int) api.Window {
	return api.Window{Kind: api.WinSlide, Size: size, Slide: slide}
}

func session(gap int) api.Window {
	return api.Window{Kind: api.WinSession, Size: gap}
}

// windows are of each kind, with the least and the greatest sizes and some between.
var windows = []api.Window{
	none(), tumble(1), tumble(10), tumble(maxSize), slide(1, 1), slide(10, 4), slide(10, 5), slide(16, 1), slide(maxSize, maxSize/16), slide(maxSize, maxSize),
	session(1), session(5), session(maxSize),
}

// anAgg is an aggregate that a flow with these windows may have.
func anAgg(w api.Window) int {
	if w.Kind == api.WinNone {
		return 0
	}
	return api.AggSum
}

func rec(key string, time, value int) api.Record {
	return api.Record{Key: key, Time: time, Value: value}
}

func recs(l ...api.Record) []api.Record {
	return l
}

// pane is one of some values.
func pane(key string, from, to int, values ...int) api.Pane {
	return api.Pane{Key: key, Span: api.Span{From: from, To: to}, Acc: secondAcc(values)}
}

func made(t *testing.T, w api.Window, agg int) *keep.Keep {
	t.Helper()
	k, e := keep.New(w, agg)
	if k == nil || e != api.OK {
		t.Fatalf("New(%v, %d) = %v, %d", w, agg, k, e)
	}
	return k
}

func checkPut(t *testing.T, k *keep.Keep, r api.Record, want []api.Record, e api.Errno) {
	t.Helper()
	if got, err := k.Put(r); !slices.Equal(got, want) || err != e {
		t.Errorf("Put(%v) = %v, %d, want %v, %d", r, got, err, want, e)
	}
}

// put puts records that are neither wrong nor late, into a keep with windows.
func put(t *testing.T, k *keep.Keep, l ...api.Record) {
	t.Helper()
	for _, r := range l {
		checkPut(t, k, r, nil, api.OK)
	}
}

func checkMark(t *testing.T, k *keep.Keep, at int, want []api.Record, e api.Errno) {
	t.Helper()
	if got, err := k.Mark(at); !slices.Equal(got, want) || err != e {
		t.Errorf("Mark(%d) = %v, %d, want %v, %d", at, got, err, want, e)
	}
}

func checkAt(t *testing.T, k *keep.Keep, want int) {
	t.Helper()
	if got := k.At(); got != want {
		t.Errorf("At() = %d, want %d", got, want)
	}
}

func checkOpen(t *testing.T, k *keep.Keep, want ...api.Pane) {
	t.Helper()
	if got := k.Open(); !slices.Equal(got, want) {
		t.Errorf("Open() = %v, want %v", got, want)
	}
}

func checkSave(t *testing.T, k *keep.Keep, group int, want []byte, e api.Errno) {
	t.Helper()
	if got, err := k.Save(group); !bytes.Equal(got, want) || err != e {
		t.Errorf("Save(%d) = % x, %d, want % x, %d", group, got, err, want, e)
	}
}

func checkLoad(t *testing.T, k *keep.Keep, b []byte, e api.Errno) {
	t.Helper()
	if err := k.Load(b); err != e {
		t.Errorf("Load(% x) = %d, want %d", b, err, e)
	}
}

// checkSame holds all that a keep tells to the second reading.
func checkSame(t *testing.T, k *keep.Keep, s *second) {
	t.Helper()
	checkAt(t, k, s.mark)
	checkOpen(t, k, s.open()...)
	for g := range nGroups {
		b, e := s.save(g)
		checkSave(t, k, g, b, e)
	}
}

// checkFresh tells by Load whether a keep is fresh, for which no group must have been loaded. The keep is of no use after it.
func checkFresh(t *testing.T, k *keep.Keep, want bool) {
	t.Helper()
	e, group := api.ErrArg, 0
	if want {
		e = api.OK
	}
	for slices.ContainsFunc(k.Open(), func(p api.Pane) bool { return secondGroup(p.Key) == group }) {
		group++
	}
	before := k.At()
	other := before + 1
	if before == forever {
		other = 0
	}
	checkLoad(t, k, encode(group, other), e)
	if want {
		before = other
	}
	checkAt(t, k, before)
}

func TestExamples(t *testing.T) { // the chapter's table
	k := made(t, tumble(10), api.AggSum)
	put(t, k, rec("a", 3, 5), rec("a", 9, 1), rec("b", 12, 4))
	checkMark(t, k, 9, nil, api.OK)
	checkMark(t, k, 10, recs(rec("a", 9, 6)), api.OK)
	checkOpen(t, k, pane("b", 10, 20, 4))
	checkPut(t, k, rec("a", 9, 1), nil, api.ErrLate)
	checkPut(t, k, rec("a", 10, 1), nil, api.OK)
	checkMark(t, k, 5, nil, api.OK)
	checkMark(t, k, 1000000001, recs(rec("a", 19, 1), rec("b", 19, 4)), api.OK)
	k = made(t, session(5), api.AggCount)
	put(t, k, rec("a", 3, 0), rec("a", 9, 0), rec("a", 7, 0))
	checkOpen(t, k, pane("a", 3, 14, 0, 0, 0))
}

func TestNew(t *testing.T) { // P11.1: without panes, with the mark 0, fresh
	for _, w := range windows {
		for agg := range 5 {
			if (agg == 0) != (w == none()) {
				continue
			}
			k := made(t, w, agg)
			s, _ := newSecond(w, agg)
			checkSame(t, k, s)
			checkFresh(t, k, true)
		}
	}
}

func checkNew(t *testing.T, w api.Window, agg int) {
	t.Helper()
	_, want := newSecond(w, agg)
	if k, e := keep.New(w, agg); e != want || (k == nil) != (e != api.OK) {
		t.Errorf("New(%v, %d) = %v, %d, want %d", w, agg, k, e, want)
	}
}

func TestErrorsOfNew(t *testing.T) { // P11.1: each wrong by itself
	for _, x := range []struct {
		w   api.Window
		agg int
	}{
		{none(), -1}, {none(), 1}, {none(), 4}, {none(), 5}, {api.Window{Size: 1}, 0}, {api.Window{Slide: 1}, 0}, {api.Window{Size: -1}, 0}, {api.Window{Slide: -1}, 0},
		{tumble(10), -1}, {tumble(10), 0}, {tumble(10), 5}, {slide(10, 5), 0}, {slide(10, 5), 5}, {session(10), 0}, {session(10), 5},
		{tumble(0), 1}, {tumble(-1), 1}, {tumble(maxSize + 1), 1}, {session(0), 1}, {session(-1), 1}, {session(maxSize + 1), 1},
		{api.Window{Kind: 1, Size: 10, Slide: 1}, 1}, {api.Window{Kind: 3, Size: 10, Slide: 1}, 1}, {api.Window{Kind: 1, Size: 10, Slide: 10}, 1},
		{slide(10, 0), 1}, {slide(10, -1), 1}, {slide(10, 11), 1}, {slide(17, 1), 1}, {slide(0, 0), 1}, {slide(maxSize+1, maxSize), 1}, {slide(maxSize, maxSize/16-1), 1},
		{api.Window{Kind: -1}, 0}, {api.Window{Kind: 4}, 0}, {api.Window{Kind: -1, Size: 10}, 1}, {api.Window{Kind: 4, Size: 10}, 1}, {api.Window{Kind: 4, Size: 10, Slide: 5}, 1},
	} {
		if k, e := keep.New(x.w, x.agg); k != nil || e != api.ErrArg {
			t.Errorf("New(%v, %d) = %v, %d, want none, %d", x.w, x.agg, k, e, api.ErrArg)
		}
	}
}

func TestNewOfAllNumbers(t *testing.T) { // P11.1, R1: every combination within the limits and out of them
	kinds := slices.Concat([]int{-1, 0, 1, 2, 3, 4, 5}, ends)
	sizes := slices.Concat([]int{-1, 0, 1, 2, 15, 16, 17, 32, 33, maxSize - 1, maxSize, maxSize + 1}, ends)
	slides := slices.Concat([]int{-1, 0, 1, 2, 3, 15, 16, 17, maxSize/16 - 1, maxSize / 16, maxSize - 1, maxSize, maxSize + 1, 1 << 60}, ends)
	aggs := slices.Concat([]int{-1, 0, 1, 2, 3, 4, 5}, ends)
	for _, kind := range kinds {
		for _, size := range sizes {
			for _, slide := range slides {
				for _, agg := range aggs {
					checkNew(t, api.Window{Kind: kind, Size: size, Slide: slide}, agg)
				}
			}
		}
	}
}

func TestOpenIsOrdered(t *testing.T) { // P11.1: by Key, byte by byte, then by From
	k := made(t, tumble(10), api.AggSum)
	keys := []string{"", "\x00", "\x00a", "A", "a", "a\x00", "aa", "b", "\x7f", "\x80", "\xc3\xa4", "\xff"}
	var want []api.Pane
	for _, key := range keys {
		for _, from := range []int{0, 10, 90, 100} {
			want = append(want, pane(key, from, from+10, from))
		}
	}
	for i := range want { // 7 and 48 have no divisor in common, so each one comes once
		p := want[i*7%len(want)]
		put(t, k, rec(p.Key, p.Span.From, p.Acc.Sum))
	}
	checkOpen(t, k, want...)
	checkOpen(t, k, want...)
	var results []api.Record
	for _, from := range []int{0, 10, 90, 100} {
		for _, key := range keys {
			results = append(results, rec(key, from+9, from))
		}
	}
	checkMark(t, k, forever, results, api.OK)
	checkOpen(t, k)
}

func TestOpenWithSlides(t *testing.T) { // P11.1: From below 0 stands ahead
	k := made(t, slide(10, 4), api.AggSum)
	put(t, k, rec("b", 1, 2), rec("a", 5, 3), rec("b", 8, 4))
	checkOpen(t, k, pane("a", -4, 6, 3), pane("a", 0, 10, 3), pane("a", 4, 14, 3),
		pane("b", -8, 2, 2), pane("b", -4, 6, 2), pane("b", 0, 10, 2, 4), pane("b", 4, 14, 4), pane("b", 8, 18, 4))
}

func TestManyKeys(t *testing.T) { // P11.1, P11.3, P11.4: of each group, one after the other
	for _, w := range windows[1:] {
		k := made(t, w, api.AggMin)
		s, _ := newSecond(w, api.AggMin)
		for i := range 100 {
			r := rec(strings.Repeat(string(rune('a'+i%26)), 1+i/26), 10*(i%3), -i)
			put(t, k, r)
			s.put(r)
		}
		checkSame(t, k, s)
		for _, at := range []int{1, 20, 21, maxSize, forever} {
			want, e := s.setMark(at)
			checkMark(t, k, at, want, e)
			checkSame(t, k, s)
		}
	}
}
