package keep_test

import (
	"bytes"
	"math"
	"slices"
	"testing"

	"watershed/api"
	"watershed/keep"
)

// noGroups are ints of no group.
var noGroups = slices.Concat([]int{-2, -1, 16, 17, 1<<32 + 12, 12 - 1<<32}, ends)

// inGroup returns n keys of a group, the shortest ones there are, made of three bytes.
func inGroup(group, n int) []string {
	all, found := []string{""}, []string(nil)
	for i := 0; len(found) < n; i++ {
		if secondGroup(all[i]) == group {
			found = append(found, all[i])
		}
		all = append(all, all[i]+"a", all[i]+"\x00", all[i]+"\xff")
	}
	return found
}

// keyOf returns a key of n bytes in a group.
func keyOf(group, n int) string {
	for i := range 1 << 16 {
		k := slices.Repeat([]byte{'k'}, n)
		k[0], k[n-1] = byte(i), byte(i>>8)
		if secondGroup(string(k)) == group {
			return string(k)
		}
	}
	return ""
}

func TestBytesOfAGroup(t *testing.T) { // P11.4: written out, from the words of the chapter
	k := made(t, tumble(10), api.AggSum)
	put(t, k, rec("a", 23, 64), rec("a", 25, -1))
	checkMark(t, k, 20, nil, api.OK)
	checkSave(t, k, 12, []byte{
		24, 40, 2, // the group, the mark, the number of panes: what is not negative is doubled
		2, 'a', 40, 60, 4, 126, 1, 0x80, 1, // Key, From, To, Count, Sum, Min, Max
	}, api.OK)
	put(t, k, rec("a", 40, -65), rec("\x08", 20, 0))
	checkSave(t, k, 5, []byte{10, 40, 0}, api.OK)
	checkSave(t, k, secondGroup("\x08"), []byte{byte(2 * secondGroup("\x08")), 40, 2, 2, 8, 40, 60, 2, 0, 0, 0}, api.OK)
	checkSave(t, k, 12, []byte{24, 40, 4, 2, 'a', 40, 60, 4, 126, 1, 0x80, 1, 2, 'a', 80, 100, 2, 0x81, 1, 0x81, 1, 0x81, 1}, api.OK)
}

func TestSaveOfWrongGroups(t *testing.T) { // P11.4
	for _, w := range windows {
		k := made(t, w, anAgg(w))
		k.Put(rec("a", 3, 1))
		for _, g := range noGroups {
			checkSave(t, k, g, nil, api.ErrArg)
		}
	}
}

func TestSaveOfGroupsWithoutPanes(t *testing.T) { // P11.4: the group, the mark, and 0
	for _, w := range windows {
		k := made(t, w, anAgg(w))
		for _, at := range []int{0, 1, 63, 64, maxTime, forever} {
			checkMark(t, k, at, nil, api.OK)
			for g := range nGroups {
				checkSave(t, k, g, slices.Concat(num(g), num(at), num(0)), api.OK)
			}
		}
	}
}

func TestSaveOfEveryGroup(t *testing.T) { // P11.4: several keys of each group, several spans of each key
	for _, w := range windows[1:] {
		k := made(t, w, api.AggSum)
		s, _ := newSecond(w, api.AggSum)
		for g := range nGroups {
			for i, name := range append(inGroup(g, 3), keyOf(g, 16)) {
				for n := range 1 + i {
					r := rec(name, 40+n*w.Size, 1000*g-n)
					put(t, k, r)
					s.put(r)
				}
			}
			checkSave(t, k, g, encode(g, 0, groupOf(s, g)...), api.OK)
		}
		checkSame(t, k, s)
		for _, at := range []int{40, 41, 40 + w.Size, 40 + 3*w.Size} {
			want, _ := s.setMark(at)
			checkMark(t, k, at, want, api.OK)
			checkSame(t, k, s)
		}
	}
}

// groupOf returns the panes of a group, in order.
func groupOf(s *second, group int) []api.Pane {
	return slices.DeleteFunc(s.open(), func(p api.Pane) bool { return secondGroup(p.Key) != group })
}

func TestSaveOfExtremes(t *testing.T) { // P11.4: integers of all lengths, also below 0
	for _, v := range slices.Concat([]int{0, 1, -1, 63, 64, -64, -65, 1 << 40, -1 << 40}, ends) {
		for _, w := range windows[1:] {
			k := made(t, w, api.AggSum)
			s, _ := newSecond(w, api.AggSum)
			for _, time := range []int{0, 5, maxTime} {
				put(t, k, rec("a", time, v))
				s.put(rec("a", time, v))
			}
			checkSave(t, k, 12, encode(12, 0, s.open()...), api.OK)
		}
	}
	k := made(t, slide(10, 9), api.AggSum)
	put(t, k, rec("a", 0, math.MinInt))
	checkSave(t, k, 12, encode(12, 0, pane("a", -9, 1, math.MinInt), pane("a", 0, 10, math.MinInt)), api.OK)
}

func TestSaveChangesNothing(t *testing.T) { // P11.4, R2
	for _, w := range windows {
		k := made(t, w, anAgg(w))
		s, _ := newSecond(w, anAgg(w))
		for i := range 20 {
			k.Put(rec(key(i%5), i, i))
			s.put(rec(key(i%5), i, i))
			checkSame(t, k, s)
			checkSame(t, k, s)
		}
	}
}

func TestSavedBytesAreApart(t *testing.T) { // P11.4, R2: later calls change them not, and a change of them changes no keep
	k := made(t, tumble(10), api.AggSum)
	s, _ := newSecond(tumble(10), api.AggSum)
	for i, name := range inGroup(12, 8) {
		put(t, k, rec(name, 30+i, i), rec(name, 50, i))
		s.put(rec(name, 30+i, i))
		s.put(rec(name, 50, i))
	}
	saved, _ := k.Save(12)
	before := slices.Clone(saved)
	other := made(t, tumble(10), api.AggSum)
	checkLoad(t, other, saved, api.OK)
	for i, name := range inGroup(12, 8) {
		put(t, k, rec(name, 60+i, i), rec(name, 30, i))
	}
	k.Mark(45)
	again, _ := k.Save(12)
	if !bytes.Equal(saved, before) {
		t.Errorf("what was saved becomes % x, from % x", saved, before)
	}
	wanted := slices.Clone(again)
	for i := range saved {
		saved[i] = 0xee
	}
	_ = append(saved, 0xee, 0xee, 0xee)
	if !bytes.Equal(again, wanted) {
		t.Errorf("what was saved later becomes % x", again)
	}
	checkSave(t, k, 12, wanted, api.OK)
	checkOpen(t, other, s.open()...)
	checkSave(t, other, 12, before, api.OK)
}

func TestLoadKeepsNoBytes(t *testing.T) { // P11.5, R2: they are not changed, nor what is behind them, and nothing of them is held
	long := keyOf(12, 16)
	whole := append(encode(12, 7, ordered(pane("a", 10, 20, 1), pane("a", 30, 40, 2), pane(long, 10, 20, 3))...), 1, 2, 3, 4)
	for cut := range 20 {
		b := slices.Clone(whole)
		given := b[:max(0, len(b)-cut)]
		k := made(t, tumble(10), api.AggSum)
		e := k.Load(given)
		if !bytes.Equal(b, whole) {
			t.Fatalf("Load changes its bytes to % x", b)
		}
		if (e == api.OK) != (cut == 4) {
			t.Errorf("Load returns %d without the last %d bytes", e, cut)
		}
		for i := range b {
			b[i] = 0xee
		}
		if e == api.OK {
			checkSave(t, k, 12, whole[:len(whole)-4], api.OK)
			put(t, k, rec("a", 12, 5))
			checkSave(t, k, 12, encode(12, 7, ordered(pane("a", 10, 20, 1, 5), pane("a", 30, 40, 2), pane(long, 10, 20, 3))...), api.OK)
		}
	}
}

func TestKeepsAreApart(t *testing.T) { // R2: one that was loaded from another
	for _, w := range windows[1:] {
		var keeps []*keep.Keep
		var seconds []*second
		for range 3 {
			k := made(t, w, api.AggSum)
			s, _ := newSecond(w, api.AggSum)
			for i, name := range []string{"a", "b", "", "cc"} {
				put(t, k, rec(name, 20+i, i))
				s.put(rec(name, 20+i, i))
			}
			keeps, seconds = append(keeps, k), append(seconds, s)
		}
		copied := made(t, w, api.AggSum)
		s, _ := newSecond(w, api.AggSum)
		for g := range nGroups {
			b, _ := keeps[0].Save(g)
			checkLoad(t, copied, b, s.load(b))
		}
		keeps, seconds = append(keeps, copied), append(seconds, s)
		for i := range keeps {
			put(t, keeps[i], rec("a", 30+i, i))
			seconds[i].put(rec("a", 30+i, i))
			want, _ := seconds[i].setMark(22 + i)
			checkMark(t, keeps[i], 22+i, want, api.OK)
			for n := range keeps {
				checkSame(t, keeps[n], seconds[n])
			}
		}
	}
}
