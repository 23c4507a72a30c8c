package keep_test

import (
	"math"
	"slices"
	"testing"

	"watershed/api"
	"watershed/keep"
)

// x and y are keys in the group of "a", which is 12: x stands ahead of it, y behind it.
var x, y = keyOf(12, 2), keyBehind(12)

// keyBehind returns a key in a group that stands behind those of letters.
func keyBehind(group int) string {
	for i := range 256 {
		if k := string([]byte{0xff, byte(i)}); secondGroup(k) == group {
			return k
		}
	}
	return ""
}

// bases are panes of each kind of window that may be loaded, all of the group 12; at a mark greater by one, the first pane is due.
var bases = []struct {
	w     api.Window
	mark  int
	panes []api.Pane
}{
	{none(), 7, nil},
	{tumble(10), 19, ordered(pane("a", 10, 20, 1, 2), pane("a", 20, 30, 3), pane("a", maxTime, maxTime+10, 5), pane(x, 20, 30, 6), pane(y, 30, 40, -7))},
	{slide(10, 4), 1, ordered(pane("a", -8, 2, 1, 2), pane("a", -4, 6, 3), pane("a", maxTime, maxTime+10, 5), pane(x, 4, 14, 6), pane(y, 0, 10, -7))},
	{session(5), 13, ordered(pane("a", 3, 14, 1, 2), pane("a", 14, 19, 3), pane("a", 30, maxTime+5, 5), pane(x, 10, 20, 6), pane(y, 12, 90, -7))},
}

// changed returns panes of which the one at a place is changed.
func changed(panes []api.Pane, i int, do func(p *api.Pane)) []api.Pane {
	l := slices.Clone(panes)
	do(&l[i])
	return l
}

// checkGood holds a keep that loads the bytes to what they say.
func checkGood(t *testing.T, w api.Window, b []byte) {
	t.Helper()
	group, mark, panes, _ := decode(b)
	k := made(t, w, anAgg(w))
	checkLoad(t, k, b, api.OK)
	checkAt(t, k, mark)
	checkOpen(t, k, panes...)
	for g := range nGroups {
		if g != group {
			checkSave(t, k, g, encode(g, mark), api.OK)
		}
	}
	checkSave(t, k, group, b, api.OK)
}

// checkForm holds keeps, that is a fresh one and one with panes of other groups, to an error, after which they are as before.
func checkForm(t *testing.T, w api.Window, b []byte) {
	t.Helper()
	k := made(t, w, anAgg(w))
	s, _ := newSecond(w, anAgg(w))
	checkLoad(t, k, b, api.ErrForm)
	checkSame(t, k, s)
	checkFresh(t, k, true)
	k = made(t, w, anAgg(w))
	for i, key := range []string{"b", "", "c", "b"} {
		k.Put(rec(key, 100+5*i, i))
		s.put(rec(key, 100+5*i, i))
	}
	checkLoad(t, k, encode(3, 0), s.load(encode(3, 0)))
	checkLoad(t, k, b, api.ErrForm)
	checkSame(t, k, s)
	checkFresh(t, k, false)
	if t.Failed() {
		t.Fatalf("%v: % x", w, b)
	}
}

// checkEither is checkGood or checkForm.
func checkEither(t *testing.T, w api.Window, b []byte, good bool) {
	t.Helper()
	if good {
		checkGood(t, w, b)
	} else {
		checkForm(t, w, b)
	}
}

func TestLoadOfBases(t *testing.T) { // P11.5: and of the test's own keys
	if secondGroup("a") != 12 || secondGroup(x) != 12 || secondGroup(y) != 12 || x >= "a" || y <= "a" {
		t.Fatalf("the keys %q and %q are wrong", x, y)
	}
	for _, base := range bases {
		checkGood(t, base.w, encode(12, base.mark, base.panes...))
	}
}

func TestLoadWhatWasSaved(t *testing.T) { // P11.5: into a new keep, and into one that holds other groups
	for _, w := range windows {
		k := made(t, w, anAgg(w))
		s, _ := newSecond(w, anAgg(w))
		for i, name := range []string{"a", "b", "", key(16), "c", "a", "zz", "b"} {
			want, _ := s.put(rec(name, 40+3*i, i-4))
			checkPut(t, k, rec(name, 40+3*i, i-4), want, api.OK)
		}
		want, _ := s.setMark(46)
		checkMark(t, k, 46, want, api.OK)
		all := made(t, w, anAgg(w))
		for g := range nGroups {
			b, _ := k.Save(g)
			checkGood(t, w, b)
			checkLoad(t, all, b, api.OK)
		}
		checkSame(t, all, s)
	}
}

func TestLoadGroups(t *testing.T) { // P11.5: from 0 to 15, and all keys in it
	for _, base := range bases {
		for g := range nGroups {
			checkGood(t, base.w, encode(g, base.mark))
			checkEither(t, base.w, encode(g, base.mark, base.panes...), g == 12 || base.panes == nil)
		}
		for _, g := range noGroups {
			checkForm(t, base.w, encode(g, base.mark))
			checkForm(t, base.w, encode(g, base.mark, base.panes...))
		}
	}
}

func TestLoadMarks(t *testing.T) { // P11.5: marks, at which no pane is due
	for _, base := range bases {
		for _, at := range []int{0, 1, base.mark, base.mark + 1, maxTime - 1, maxTime, forever} {
			checkGood(t, base.w, encode(12, at))
			checkEither(t, base.w, encode(12, at, base.panes...), at <= base.mark || base.panes == nil)
		}
		for _, at := range slices.Concat([]int{-2, -1, forever + 1, forever + 2}, ends) {
			checkForm(t, base.w, encode(12, at))
			checkForm(t, base.w, encode(12, at, base.panes...))
		}
		for i, p := range base.panes { // each pane alone
			for _, at := range []int{p.Span.From, p.Span.To - 1, p.Span.To, p.Span.To + 1, forever} {
				if within(at, 0, forever) {
					checkEither(t, base.w, encode(12, at, base.panes[i]), at < p.Span.To && at != forever)
				}
			}
		}
	}
}

// joined returns pieces as they are behind one another.
func joined(pieces [][]byte) []byte {
	return slices.Concat(pieces...)
}

func TestLoadNumbersOfPanes(t *testing.T) { // P11.5: exactly as many panes as stated
	for _, base := range bases {
		n := len(base.panes)
		for _, stated := range slices.Concat([]int{-2, -1, 0, 1, n - 1, n, n + 1, 2 * n, 1 << 40}, ends) {
			checkEither(t, base.w, joined(pieces(12, base.mark, stated, base.panes)), stated == n)
		}
	}
}

func TestLoadMissingBytes(t *testing.T) { // P11.5: any number of them at the end, or one anywhere
	for _, base := range bases {
		b := encode(12, base.mark, base.panes...)
		for i := range b {
			checkForm(t, base.w, b[:i])
			without := slices.Concat(b[:i], b[i+1:])
			s, _ := newSecond(base.w, anAgg(base.w))
			checkEither(t, base.w, without, s.load(without) == api.OK)
		}
		checkForm(t, base.w, nil)
	}
}

func TestLoadTooManyBytes(t *testing.T) { // P11.5: no bytes after the panes
	for _, base := range bases {
		b := encode(12, base.mark, base.panes...)
		for i := range 256 {
			checkForm(t, base.w, append(slices.Clone(b), byte(i)))
		}
		checkForm(t, base.w, slices.Concat(b, b))
		checkForm(t, base.w, slices.Concat(b, num(0)))
	}
}

func TestLoadOddIntegers(t *testing.T) { // P11.5: what layer 1 would not produce, in place of each integer and of each string's length
	for _, base := range bases {
		list := pieces(12, base.mark, len(base.panes), base.panes)
		for i, piece := range list {
			length := 1 // of the integer that the piece begins with
			for piece[length-1] >= 0x80 {
				length++
			}
			head, rest := piece[:length], piece[length:]
			longer := slices.Clone(head)
			longer[length-1] |= 0x80
			for _, odd := range [][]byte{
				append(slices.Clone(longer), 0), append(slices.Clone(longer), 0x80, 0), longer,
				{0xff, 0xff, 0xff, 0xff, 0xff, 0xff, 0xff, 0xff, 0xff, 2}, {0x80, 0x80, 0x80, 0x80, 0x80, 0x80, 0x80, 0x80, 0x80, 0x80, 1}, {0x80, 0}, {},
			} {
				other := slices.Clone(list)
				other[i] = slices.Concat(odd, rest)
				b := joined(other)
				s, _ := newSecond(base.w, anAgg(base.w))
				if e := s.load(b); e != api.ErrForm {
					continue // what is behind it makes another encoding of it
				}
				checkForm(t, base.w, b)
			}
		}
	}
}

func TestLoadOddStrings(t *testing.T) { // P11.5: lengths below 0, and greater than what is left
	for _, base := range bases[1:] {
		list := pieces(12, base.mark, len(base.panes), base.panes)
		for i := 3; i < len(list); i += 7 {
			for _, length := range slices.Concat([]int{-1, -2, 0, 17, 1000, 1 << 40}, ends) {
				other := slices.Clone(list)
				other[i] = append(num(length), list[i][1:]...)
				checkForm(t, base.w, joined(other))
			}
		}
	}
}

func TestLoadKeys(t *testing.T) { // P11.5: up to 16 bytes, in this group
	for _, base := range bases[1:] {
		p := base.panes[0]
		for group := range nGroups {
			for _, n := range []int{1, 2, 15, 16, 17, 18, 40} {
				p.Key = keyOf(group, n)
				if secondGroup(p.Key) != group || len(p.Key) != n {
					t.Fatalf("no key of %d bytes in the group %d", n, group)
				}
				checkEither(t, base.w, encode(group, base.mark, p), n <= 16)
				checkForm(t, base.w, encode((group+1)%nGroups, base.mark, p))
			}
		}
		p.Key = ""
		for group := range nGroups {
			checkEither(t, base.w, encode(group, base.mark, p), group == 5)
		}
		for i := range base.panes { // one key among others
			checkForm(t, base.w, encode(12, base.mark, ordered(changed(base.panes, i, func(p *api.Pane) { p.Key = "b" })...)...))
			checkForm(t, base.w, encode(12, base.mark, ordered(changed(base.panes, i, func(p *api.Pane) { p.Key = keyOf(12, 17) })...)...))
		}
	}
}

func TestLoadCounts(t *testing.T) { // P11.5: at least 1
	for _, base := range bases[1:] {
		for i := range base.panes {
			for _, count := range slices.Concat([]int{-2, -1, 0, 1, 2, 1 << 40}, ends) {
				panes := changed(base.panes, i, func(p *api.Pane) { p.Acc.Count = count })
				checkEither(t, base.w, encode(12, base.mark, panes...), count >= 1)
			}
		}
	}
}

func TestLoadValues(t *testing.T) { // P11.5: nothing is asked of Sum, Min and Max
	for _, base := range bases[1:] {
		for i := range base.panes {
			for _, v := range slices.Concat([]int{-1, 0, 1}, ends) {
				checkGood(t, base.w, encode(12, base.mark, changed(base.panes, i, func(p *api.Pane) { p.Acc.Sum = v })...))
				checkGood(t, base.w, encode(12, base.mark, changed(base.panes, i, func(p *api.Pane) { p.Acc.Min = v })...))
				checkGood(t, base.w, encode(12, base.mark, changed(base.panes, i, func(p *api.Pane) { p.Acc.Max = v })...))
			}
		}
	}
}

// checkSpan holds one pane with a span, at the mark 0.
func checkSpan(t *testing.T, w api.Window, from, to int, good bool) {
	t.Helper()
	p := pane("a", 0, 0, 3)
	p.Span = api.Span{From: from, To: to}
	checkEither(t, w, encode(12, 0, p), good)
}

func TestLoadSpans(t *testing.T) { // P11.5: at and around the limits of each kind
	for _, s := range []struct {
		w        api.Window
		from, to int
		good     bool
	}{
		{tumble(10), 0, 10, true}, {tumble(10), 10, 20, true}, {tumble(10), -10, 0, false}, {tumble(10), -5, 5, false}, {tumble(10), 1, 11, false}, {tumble(10), 5, 15, false},
		{tumble(10), 10, 19, false}, {tumble(10), 10, 21, false}, {tumble(10), 10, 30, false}, {tumble(10), 10, 10, false}, {tumble(10), 20, 10, false},
		{tumble(10), maxTime - 10, maxTime, true}, {tumble(10), maxTime, maxTime + 10, true}, {tumble(10), maxTime + 10, maxTime + 20, false}, {tumble(7), 999999994, forever, true}, {tumble(7), forever, forever + 7, false},
		{tumble(maxSize), 0, maxSize, true}, {tumble(maxSize), maxTime, maxTime + maxSize, true}, {tumble(maxSize), -maxSize, 0, false}, {tumble(1), maxTime, forever, true}, {tumble(1), forever, forever + 1, false},
		{slide(10, 4), -8, 2, true}, {slide(10, 4), -12, -2, false}, {slide(10, 5), -10, 0, false}, {slide(10, 5), -5, 5, true}, {slide(10, 4), -4, 6, true}, {slide(10, 4), 0, 10, true}, {slide(10, 4), -7, 3, false},
		{slide(10, 4), 2, 12, false}, {slide(10, 4), 4, 14, true}, {slide(10, 4), 4, 13, false}, {slide(10, 4), 4, 15, false}, {slide(10, 4), 4, 8, false}, {slide(10, 4), 10, 20, false},
		{slide(10, 4), maxTime, maxTime + 10, true}, {slide(10, 4), maxTime + 4, maxTime + 14, false}, {slide(10, 9), 999999999, maxTime + 9, true}, {slide(10, 9), 1000000008, 1000000018, false},
		{slide(maxSize, maxSize/16), -937500, 62500, true}, {slide(maxSize, maxSize/16), -maxSize, 0, false}, {slide(16, 1), -15, 1, true}, {slide(16, 1), -16, 0, false}, {slide(10, 9), -9, 1, true},
		{session(5), 0, 5, true}, {session(5), 0, 4, false}, {session(5), 0, 6, true}, {session(5), -1, 4, false}, {session(5), -1, 10, false}, {session(5), 3, 8, true}, {session(5), 3, 7, false}, {session(5), 3, 3, false},
		{session(5), maxTime, maxTime + 5, true}, {session(5), maxTime, maxTime + 4, false}, {session(5), maxTime, maxTime + 6, false}, {session(5), forever, forever + 5, false}, {session(5), forever, maxTime + 5, false},
		{session(5), 0, maxTime + 5, true}, {session(5), 0, maxTime + 6, false}, {session(5), 0, maxTime + 4, true}, {session(maxSize), 0, maxTime + maxSize, true}, {session(maxSize), maxTime, maxTime + maxSize, true},
		{session(maxSize), maxTime - 1, maxTime + maxSize - 2, false}, {session(1), 0, 1, true}, {session(1), 0, 0, false}, {session(1), maxTime, forever, true}, {session(1), forever, forever + 1, false},
		{none(), 0, 0, false}, {none(), 0, 1, false}, {none(), 0, 10, false}, {none(), math.MinInt, math.MaxInt, false},
	} {
		checkSpan(t, s.w, s.from, s.to, s.good)
	}
}

func TestLoadSpansOfAllNumbers(t *testing.T) { // P11.5, R1: any ints at the ends
	numbers := slices.Concat([]int{-maxSize - 1, -maxSize, -10, -1, 0, 1, 10, maxSize, maxTime - 1, maxTime, forever, maxTime + maxSize, maxTime + maxSize + 1}, ends)
	for _, w := range windows {
		for _, from := range numbers {
			for _, to := range slices.Concat(numbers, []int{from + w.Size - 1, from + w.Size, from + w.Size + 1}) {
				checkSpan(t, w, from, to, secondMayBe(w, api.Span{From: from, To: to}))
			}
		}
	}
}

func TestLoadSpansOfTimes(t *testing.T) { // P11.5: small spans, of which there is a time, and no other ones
	for _, w := range []api.Window{none(), tumble(1), tumble(3), tumble(8), slide(3, 1), slide(7, 3), slide(8, 4), slide(8, 7), slide(16, 1)} {
		spans := map[api.Span]bool{}
		for time := range 60 {
			for _, s := range secondSpans(w, time) {
				spans[s] = true
			}
		}
		for from := -20; from < 20; from++ {
			for to := from - 1; to <= from+18; to++ {
				checkSpan(t, w, from, to, spans[api.Span{From: from, To: to}])
			}
		}
	}
}

func TestLoadOrder(t *testing.T) { // P11.5: strictly increasing by Key, byte by byte, and From
	for _, base := range bases[1:] {
		for i := range base.panes {
			for n := range base.panes {
				if i == n {
					continue
				}
				l := slices.Clone(base.panes)
				l[i], l[n] = l[n], l[i]
				checkForm(t, base.w, encode(12, base.mark, l...))
			}
			checkForm(t, base.w, encode(12, base.mark, slices.Insert(slices.Clone(base.panes), i, base.panes[i])...)) // equal
			again := changed(slices.Insert(slices.Clone(base.panes), i, base.panes[i]), i, func(p *api.Pane) { p.Acc = secondAcc([]int{8}) })
			checkForm(t, base.w, encode(12, base.mark, again...)) // equal but for the values
			checkGood(t, base.w, encode(12, base.mark, slices.Delete(slices.Clone(base.panes), i, i+1)...))
		}
		reversed := slices.Clone(base.panes)
		slices.Reverse(reversed)
		checkForm(t, base.w, encode(12, base.mark, reversed...))
	}
}

func TestLoadOrderOfKeys(t *testing.T) { // P11.5: as bytes, whatever From is
	keys := inGroup(12, 12)
	slices.Sort(keys)
	for _, base := range bases[1:] {
		for i, p := range keys {
			for n, q := range keys {
				first, last := base.panes[0], base.panes[1]
				first.Key, last.Key = p, q
				if base.w.Kind == api.WinSession {
					first.Span, last.Span = api.Span{From: 20, To: 30}, api.Span{From: 30, To: 40}
				}
				checkEither(t, base.w, encode(12, base.mark, first, last), i < n || i == n && first.Span.From < last.Span.From)
				checkEither(t, base.w, encode(12, base.mark, last, first), n < i || i == n && last.Span.From < first.Span.From)
			}
		}
	}
}

func TestLoadSessionsThatMeet(t *testing.T) { // P11.5: no two panes of a key have a time in common
	w := session(5)
	for _, s := range []struct {
		a, b, c, d int
		good       bool
	}{
		{10, 15, 15, 20, true}, {10, 15, 14, 19, false}, {10, 15, 16, 21, true}, {10, 16, 15, 20, false}, {10, 90, 20, 30, false}, {10, 90, 89, 94, false}, {10, 90, 90, 95, true},
		{10, 15, 10, 15, false}, {10, 15, 10, 16, false}, {10, 16, 10, 15, false}, {10, 15, 11, 16, false}, {10, 15, 9, 40, false}, {15, 20, 10, 15, false}, {0, 5, 5, maxTime + 5, true}, {0, 6, 5, maxTime + 5, false},
	} {
		checkEither(t, w, encode(12, 3, pane("a", s.a, s.b, 1), pane("a", s.c, s.d, 2)), s.good)
		checkGood(t, w, encode(12, 3, pane("a", s.a, s.b, 1), pane(y, s.c, s.d, 2))) // another key
		checkEither(t, w, encode(12, 3, pane(x, 0, 50, 3), pane("a", s.a, s.b, 1), pane("a", s.c, s.d, 2), pane(y, 0, 50, 4)), s.good)
	}
	checkForm(t, w, encode(12, 3, pane("a", 0, 90, 1), pane("a", 90, 95, 2), pane("a", 94, 99, 3)))
	checkForm(t, w, encode(12, 3, pane("a", 0, 90, 1), pane("a", 10, 15, 2), pane("a", 95, 100, 3)))
	checkGood(t, slide(10, 4), encode(12, 3, pane("a", 0, 10, 1), pane("a", 4, 14, 2), pane("a", 8, 18, 3))) // slides have times in common
}

func TestLoadWithoutWindows(t *testing.T) { // P11.5: no panes, whatever they are
	for _, base := range bases[1:] {
		for _, p := range base.panes {
			checkForm(t, none(), encode(12, 0, p))
		}
		checkForm(t, none(), encode(12, 0, base.panes...))
	}
	checkForm(t, none(), encode(12, 0, api.Pane{Key: "a"}))
	checkForm(t, none(), encode(12, 0, api.Pane{Key: "a", Acc: api.Acc{Count: 1}}))
}

func TestLoadOfOtherWindows(t *testing.T) { // P11.5: of these windows
	for _, base := range bases {
		for _, w := range windows {
			b := encode(12, base.mark, base.panes...)
			s, _ := newSecond(w, anAgg(w))
			checkEither(t, w, b, s.load(b) == api.OK)
		}
	}
	checkForm(t, tumble(5), encode(12, 0, pane("a", 10, 20, 1)))
	checkForm(t, tumble(20), encode(12, 0, pane("a", 20, 30, 1)))
	checkForm(t, slide(10, 4), encode(12, 0, pane("a", 10, 20, 1)))
	checkForm(t, session(11), encode(12, 0, pane("a", 10, 20, 1)))
	checkGood(t, session(9), encode(12, 0, pane("a", 10, 20, 1)))
}

// holding returns keeps with a pane of the group 12, in several ways, and such that loaded it without one; all of them have the mark of a base.
func holding(t *testing.T, w api.Window, mark int, panes []api.Pane) []*keep.Keep {
	t.Helper()
	var l []*keep.Keep
	add := func(do func(k *keep.Keep)) {
		k := made(t, w, anAgg(w))
		do(k)
		checkAt(t, k, mark)
		l = append(l, k)
	}
	add(func(k *keep.Keep) { checkLoad(t, k, encode(12, mark, panes...), api.OK) })
	add(func(k *keep.Keep) { checkLoad(t, k, encode(12, mark), api.OK) })
	add(func(k *keep.Keep) { checkMark(t, k, mark, nil, api.OK); checkLoad(t, k, encode(12, mark), api.OK) })
	add(func(k *keep.Keep) { checkLoad(t, k, encode(12, 0), api.OK); checkMark(t, k, mark, nil, api.OK) })
	if w.Kind != api.WinNone {
		add(func(k *keep.Keep) { put(t, k, rec("a", mark+w.Size, 1)); k.Mark(mark) })
		add(func(k *keep.Keep) { checkMark(t, k, mark, nil, api.OK); put(t, k, rec(y, mark, 1)) })
		add(func(k *keep.Keep) { checkLoad(t, k, encode(12, 0, panes...), api.OK); k.Mark(mark) })
	}
	return l
}

func TestErrTwice(t *testing.T) { // P11.5: a pane of the group, or the group loaded before
	for _, base := range bases {
		for _, k := range holding(t, base.w, base.mark, base.panes) {
			open := k.Open()
			for range 2 {
				checkLoad(t, k, encode(12, base.mark, base.panes...), api.ErrTwice)
				checkLoad(t, k, encode(12, base.mark), api.ErrTwice)
				checkLoad(t, k, encode(12, base.mark+1), api.ErrTwice) // ahead of ErrArg
				checkLoad(t, k, encode(12, 0), api.ErrTwice)
				checkLoad(t, k, append(encode(12, base.mark), 0), api.ErrForm) // ahead of ErrTwice
				checkLoad(t, k, encode(12, forever+1), api.ErrForm)
				checkOpen(t, k, open...)
				checkAt(t, k, base.mark)
			}
			checkLoad(t, k, encode(13, base.mark), api.OK)
			checkLoad(t, k, encode(13, base.mark), api.ErrTwice)
			checkOpen(t, k, open...)
		}
	}
}

func TestErrTwiceWhenPanesAreGone(t *testing.T) { // P11.5: a group that was loaded stays loaded, one that was only put does not
	for _, base := range bases[1:] {
		k := made(t, base.w, api.AggSum)
		checkLoad(t, k, encode(12, base.mark, base.panes...), api.OK)
		k.Mark(forever)
		checkOpen(t, k)
		checkLoad(t, k, encode(12, forever), api.ErrTwice)
		checkLoad(t, k, encode(12, 3), api.ErrTwice)
		k = made(t, base.w, api.AggSum)
		put(t, k, rec("a", 9, 1))
		checkLoad(t, k, encode(12, 0), api.ErrTwice)
		k.Mark(forever)
		checkLoad(t, k, encode(12, forever), api.OK)
		checkLoad(t, k, encode(12, forever), api.ErrTwice)
		k = made(t, base.w, api.AggSum) // a record of another group
		put(t, k, rec("b", 9, 1))
		checkLoad(t, k, encode(12, 0), api.OK)
		checkLoad(t, k, encode(5, 0), api.ErrTwice)
	}
	k := made(t, none(), 0) // a record without windows makes no pane
	checkPut(t, k, rec("a", 9, 1), recs(rec("a", 9, 1)), api.OK)
	checkLoad(t, k, encode(12, 0), api.OK)
}

func TestErrArgOfLoad(t *testing.T) { // P11.5: a keep that is not fresh takes its own mark alone
	for _, base := range bases {
		for _, do := range []func(k *keep.Keep){
			func(k *keep.Keep) { k.Put(rec("b", 95, 1)) },
			func(k *keep.Keep) { k.Put(rec("b", maxTime, 1)) },
			func(k *keep.Keep) { k.Mark(base.mark) },
			func(k *keep.Keep) { k.Mark(1) },
			func(k *keep.Keep) { k.Mark(forever) },
			func(k *keep.Keep) { k.Load(encode(3, 0)) },
			func(k *keep.Keep) { k.Load(encode(3, base.mark)) },
			func(k *keep.Keep) { k.Load(encode(3, forever)) },
		} {
			k := made(t, base.w, anAgg(base.w))
			do(k)
			open, at := k.Open(), k.At()
			for _, mark := range []int{0, 1, base.mark - 1, base.mark, base.mark + 1, at - 1, at + 1, maxTime, forever} {
				if !within(mark, 0, forever) || mark == at {
					continue
				}
				checkLoad(t, k, encode(12, mark), api.ErrArg)
				if mark <= base.mark {
					checkLoad(t, k, encode(12, mark, base.panes...), api.ErrArg)
				}
				checkLoad(t, k, append(encode(12, mark), 0), api.ErrForm) // ahead of ErrArg
				checkOpen(t, k, open...)
				checkAt(t, k, at)
			}
			checkLoad(t, k, encode(12, at), api.OK) // no error counted as a load
			checkOpen(t, k, open...)
			checkAt(t, k, at)
		}
	}
}

func TestLoadIntoAFreshKeep(t *testing.T) { // P11.5: any mark, which the others have to have as well
	for _, base := range bases {
		k := made(t, base.w, anAgg(base.w))
		checkLoad(t, k, encode(16, 5), api.ErrForm)
		checkMark(t, k, 0, nil, api.OK)
		checkLoad(t, k, encode(12, base.mark, base.panes...), api.OK)
		checkAt(t, k, base.mark)
		checkLoad(t, k, encode(11, 0), api.ErrArg)
		for g := range nGroups {
			if g != 12 {
				checkLoad(t, k, encode(g, base.mark), api.OK)
			}
		}
		for g := range nGroups {
			checkLoad(t, k, encode(g, base.mark), api.ErrTwice)
		}
		checkOpen(t, k, base.panes...)
	}
}

func TestLoadedPanesGoOn(t *testing.T) { // P11.5: records are joined into them, marks emit them
	k := made(t, tumble(10), api.AggMax)
	checkLoad(t, k, encode(12, 19, bases[1].panes...), api.OK)
	put(t, k, rec("a", 19, 7), rec(x, 21, 1), rec("a", 30, 9))
	checkPut(t, k, rec("a", 18, 7), nil, api.ErrLate)
	checkMark(t, k, 30, recs(rec("a", 19, 7), rec(x, 29, 6), rec("a", 29, 3)), api.OK)
	checkMark(t, k, forever, recs(rec("a", 39, 9), rec(y, 39, -7), rec("a", maxTime, 5)), api.OK)
}

func TestLoadedCountsWrapAround(t *testing.T) { // R1: Counts that no records make; the promises say nothing else of them
	for kind := api.AggCount; kind <= api.AggMax; kind++ {
		k := made(t, session(5), kind)
		p, q := pane("a", 0, 8, 1), pane("a", 8, 15, 2)
		p.Acc.Count, q.Acc.Count = math.MaxInt, math.MaxInt
		checkLoad(t, k, encode(12, 0, p, q), api.OK)
		put(t, k, rec("a", 7, 3))
		want := pane("a", 0, 15, 1, 2, 3)
		want.Acc.Count = -1
		checkOpen(t, k, want)
		checkSave(t, k, 12, encode(12, 0, want), api.OK)
		put(t, k, rec("a", 7, 4))
		want = pane("a", 0, 15, 1, 2, 3, 4)
		want.Acc.Count = 0
		checkOpen(t, k, want)
		checkMark(t, k, 15, recs(rec("a", 14, 0)), api.OK)
	}
}
