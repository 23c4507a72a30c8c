package keep_test

import (
	"bytes"
	"encoding/binary"
	"math"
	"slices"
	"sort"

	"watershed/api"
)

// This file reads the chapter a second time, by other means than the program's, to hold every call against it.

// The limits, in the numbers of the document.
const (
	maxKey   = 16
	maxTime  = 1000000000
	forever  = 1000000001
	maxSize  = 1000000
	nGroups  = 16
	maxSpans = 4096 // of one call of window.Merge
)

// ends are ints at the ends, far beyond every limit.
var ends = []int{math.MinInt, math.MinInt + 1, -1 << 32, 1 << 31, 1 << 32, math.MaxInt - 1, math.MaxInt}

// second is a keep with one list of panes, in no order, which is gone through from its beginning each time.
type second struct {
	w         api.Window
	agg, mark int
	fresh     bool
	loaded    map[int]bool
	panes     []api.Pane
}

func newSecond(w api.Window, agg int) (*second, api.Errno) {
	if !secondRight(w) || (w.Kind == 0) != (agg == 0) || !within(agg, 0, 4) {
		return nil, api.ErrArg
	}
	return &second{w: w, agg: agg, fresh: true, loaded: map[int]bool{}}, api.OK
}

// within tells whether x is from least to most.
func within(x, least, most int) bool {
	return least <= x && x <= most
}

// secondRight goes through the forms of layer 5 one by one.
func secondRight(w api.Window) bool {
	switch w.Kind {
	case 0:
		return w.Size == 0 && w.Slide == 0
	case 1, 3:
		return within(w.Size, 1, maxSize) && w.Slide == 0
	case 2:
		return within(w.Size, 1, maxSize) && within(w.Slide, 1, w.Size) && (w.Size+w.Slide-1)/w.Slide <= 16
	}
	return false
}

// secondSpans tries all spans that begin near the time, and takes those in which it lies.
func secondSpans(w api.Window, t int) []api.Span {
	step := w.Slide
	switch w.Kind {
	case 0:
		return nil
	case 3:
		return []api.Span{{From: t, To: t + w.Size}}
	case 1:
		step = w.Size
	}
	var spans []api.Span
	for n := -20; n <= 20; n++ {
		from := (t/step + n) * step
		if within(t, from, from+w.Size-1) {
			spans = append(spans, api.Span{From: from, To: from + w.Size})
		}
	}
	return spans
}

func (s *second) put(r api.Record) ([]api.Record, api.Errno) {
	if len(r.Key) > maxKey || !within(r.Time, 0, maxTime) {
		return nil, api.ErrArg
	}
	if r.Time < s.mark {
		return nil, api.ErrLate
	}
	s.fresh = false
	if s.w.Kind == 0 {
		return []api.Record{r}, api.OK
	}
	for _, span := range secondSpans(s.w, r.Time) {
		s.add(api.Pane{Key: r.Key, Span: span, Acc: secondAcc([]int{r.Value})})
	}
	return nil, api.OK
}

// secondAcc is the accumulator of some values, of which there is at least one.
func secondAcc(values []int) api.Acc {
	a := api.Acc{Count: len(values), Min: slices.Min(values), Max: slices.Max(values)}
	for _, v := range values {
		a.Sum += v
	}
	return a
}

// add takes each pane that belongs together with p away and joins it to p, until there is none.
func (s *second) add(p api.Pane) {
	for {
		i := slices.IndexFunc(s.panes, func(q api.Pane) bool { return p.Key == q.Key && s.together(p.Span, q.Span) })
		if i < 0 {
			s.panes = append(s.panes, p)
			return
		}
		q := s.panes[i]
		s.panes = slices.Delete(s.panes, i, i+1)
		p.Span = api.Span{From: min(p.Span.From, q.Span.From), To: max(p.Span.To, q.Span.To)}
		p.Acc = api.Acc{Count: p.Acc.Count + q.Acc.Count, Sum: p.Acc.Sum + q.Acc.Sum, Min: min(p.Acc.Min, q.Acc.Min), Max: max(p.Acc.Max, q.Acc.Max)}
	}
}

func (s *second) together(a, b api.Span) bool {
	if s.w.Kind == 3 {
		return a.From < b.To && b.From < a.To
	}
	return a == b
}

func (s *second) setMark(at int) ([]api.Record, api.Errno) {
	if !within(at, 0, forever) {
		return nil, api.ErrArg
	}
	if at <= s.mark {
		return nil, api.OK
	}
	s.mark, s.fresh = at, false
	var due, left []api.Pane
	for _, p := range s.panes {
		if secondDue(p.Span, at) {
			due = append(due, p)
		} else {
			left = append(left, p)
		}
	}
	s.panes = left
	return secondResults(due, s.agg), api.OK
}

func secondDue(span api.Span, mark int) bool {
	return span.To <= mark || mark == forever
}

// secondResults are what is emitted for panes, in whatever order they come.
func secondResults(due []api.Pane, agg int) []api.Record {
	due = slices.Clone(due)
	sort.Slice(due, func(i, n int) bool {
		a, b := due[i], due[n]
		if a.Span.To != b.Span.To {
			return a.Span.To < b.Span.To
		}
		return ahead(a, b)
	})
	var l []api.Record
	for _, p := range due {
		time := p.Span.To - 1
		if time > maxTime {
			time = maxTime
		}
		v := [5]int{0, p.Acc.Count, p.Acc.Sum, p.Acc.Min, p.Acc.Max}[agg]
		l = append(l, api.Record{Key: p.Key, Time: time, Value: v})
	}
	return l
}

// ahead tells whether a pane stands ahead of another one by Key, byte by byte, then by From.
func ahead(a, b api.Pane) bool {
	if c := bytes.Compare([]byte(a.Key), []byte(b.Key)); c != 0 {
		return c < 0
	}
	return a.Span.From < b.Span.From
}

func (s *second) open() []api.Pane {
	return ordered(s.panes...)
}

func ordered(l ...api.Pane) []api.Pane {
	l = slices.Clone(l)
	sort.Slice(l, func(i, n int) bool { return ahead(l[i], l[n]) })
	return l
}

// secondGroup works in 64 bits, of which it takes the last ones.
func secondGroup(key string) int {
	h := uint64(2166136261)
	for _, x := range []byte(key) {
		h = (h ^ uint64(x)) * 16777619 % (1 << 32)
	}
	return int(h % 16)
}

func (s *second) save(group int) ([]byte, api.Errno) {
	if !within(group, 0, nGroups-1) {
		return nil, api.ErrArg
	}
	var some []api.Pane
	for _, p := range s.open() {
		if secondGroup(p.Key) == group {
			some = append(some, p)
		}
	}
	return encode(group, s.mark, some...), api.OK
}

// encode is the encoding of a group, whether or not it may be one.
func encode(group, mark int, panes ...api.Pane) []byte {
	return bytes.Join(pieces(group, mark, len(panes), panes), nil)
}

// pieces are the encodings of the integers and strings of a group's encoding, one by one.
func pieces(group, mark, n int, panes []api.Pane) [][]byte {
	l := [][]byte{num(group), num(mark), num(n)}
	for _, p := range panes {
		l = append(l, append(num(len(p.Key)), p.Key...))
		l = append(l, num(p.Span.From), num(p.Span.To), num(p.Acc.Count), num(p.Acc.Sum), num(p.Acc.Min), num(p.Acc.Max))
	}
	return l
}

// num is the encoding of an integer: the library's own is that of layer 1.
func num(x int) []byte {
	return binary.AppendVarint(nil, int64(x))
}

// bits are bytes that are decoded.
type bits struct {
	left []byte
	bad  bool
}

func (b *bits) num() int {
	x, n := binary.Varint(b.left)
	if b.bad || n <= 0 || !bytes.Equal(num(int(x)), b.left[:n]) {
		b.bad = true
		return 0
	}
	b.left = b.left[n:]
	return int(x)
}

func (b *bits) text() string {
	n := b.num()
	if b.bad || !within(n, 0, len(b.left)) {
		b.bad = true
		return ""
	}
	s := string(b.left[:n])
	b.left = b.left[n:]
	return s
}

// decode is what the encoding of a group says, and whether it is made of integers and strings as it should be.
func decode(l []byte) (group, mark int, panes []api.Pane, ok bool) {
	b := &bits{left: l}
	group, mark = b.num(), b.num()
	n := b.num()
	for len(panes) < n && !b.bad {
		p := api.Pane{Key: b.text()}
		for _, x := range []*int{&p.Span.From, &p.Span.To, &p.Acc.Count, &p.Acc.Sum, &p.Acc.Min, &p.Acc.Max} {
			*x = b.num()
		}
		panes = append(panes, p)
	}
	return group, mark, panes, !b.bad && len(b.left) == 0 && len(panes) == n
}

// secondMayBe tells whether a window may have a span: whether it is a span of some time of a record, or of some of them for sessions.
func secondMayBe(w api.Window, s api.Span) bool {
	if !within(s.From, -maxSize, maxTime) || !within(s.To, 1, maxTime+maxSize) { // none of these, and nothing wraps around
		return false
	}
	length := s.To - s.From
	switch w.Kind {
	case 1:
		return s.From >= 0 && length == w.Size && s.From%w.Size == 0
	case 2:
		return length == w.Size && s.From%w.Slide == 0
	case 3:
		return s.From >= 0 && length >= w.Size && s.To <= maxTime+w.Size
	}
	return false
}

func (s *second) load(b []byte) api.Errno {
	group, mark, panes, ok := decode(b)
	if !ok || !within(group, 0, nGroups-1) || !within(mark, 0, forever) {
		return api.ErrForm
	}
	for i, p := range panes {
		if len(p.Key) > maxKey || secondGroup(p.Key) != group || p.Acc.Count <= 0 || !secondMayBe(s.w, p.Span) || secondDue(p.Span, mark) {
			return api.ErrForm
		}
		if i > 0 && !ahead(panes[i-1], p) {
			return api.ErrForm
		}
		for _, q := range panes[:i] {
			if p.Key == q.Key && s.together(p.Span, q.Span) {
				return api.ErrForm
			}
		}
	}
	if s.loaded[group] || slices.ContainsFunc(s.panes, func(p api.Pane) bool { return secondGroup(p.Key) == group }) {
		return api.ErrTwice
	}
	if !s.fresh && mark != s.mark {
		return api.ErrArg
	}
	s.mark, s.fresh, s.loaded[group] = mark, false, true
	s.panes = append(s.panes, panes...)
	return api.OK
}
