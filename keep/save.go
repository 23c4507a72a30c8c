package keep

import (
	"slices"

	"watershed/api"
	"watershed/groups"
	"watershed/pack"
	"watershed/window"
)

// state is what the encoding of a group says.
type state struct {
	group, mark int
	panes       []api.Pane // ordered by Key, then by From
}

// Save returns the encoding of a group.
func (k *Keep) Save(group int) ([]byte, api.Errno) {
	if k == nil {
		return nil, api.ErrNil
	}
	if !isGroup(group) {
		return nil, api.ErrArg
	}
	return encoded(state{group: group, mark: k.at, panes: k.inGroup(group)}), api.OK
}

// Load adds the panes of a group from its encoding, and takes over the mark.
func (k *Keep) Load(b []byte) api.Errno {
	if k == nil {
		return api.ErrNil
	}
	s, ok := k.decoded(b)
	if !ok {
		return api.ErrForm
	}
	if k.loaded[s.group] || len(k.inGroup(s.group)) > 0 {
		return api.ErrTwice
	}
	if !k.fresh && s.mark != k.at {
		return api.ErrArg
	}
	k.at, k.fresh, k.loaded[s.group] = s.mark, false, true
	for _, p := range s.panes {
		k.panes[p.Key] = append(k.panes[p.Key], p)
	}
	return api.OK
}

// inGroup returns the panes whose keys are in a group, ordered by Key, then by From.
func (k *Keep) inGroup(group int) []api.Pane {
	var some []api.Pane
	for key, panes := range k.panes {
		if groups.Group(key) == group {
			some = append(some, panes...)
		}
	}
	slices.SortFunc(some, byKey)
	return some
}

// encoded is the encoding of a group. Each pane is encoded on its own, because pack copies what it is to extend.
func encoded(s state) []byte {
	b := pack.Num(nil, s.group)
	b = pack.Num(b, s.mark)
	b = pack.Num(b, len(s.panes))
	for _, p := range s.panes {
		b = append(b, encodedPane(p)...)
	}
	return b
}

func encodedPane(p api.Pane) []byte {
	b := pack.Text(nil, p.Key)
	for _, x := range []int{p.Span.From, p.Span.To, p.Acc.Count, p.Acc.Sum, p.Acc.Min, p.Acc.Max} {
		b = pack.Num(b, x)
	}
	return b
}

// decoded returns what the encoding of a group says, and whether b is one for the windows of this keep.
func (k *Keep) decoded(b []byte) (state, bool) {
	r := pack.New(b)
	s := state{group: r.Num(), mark: r.Num()}
	n := r.Num()
	if !isGroup(s.group) || !isMark(s.mark) || n < 0 {
		return state{}, false
	}
	for range n { // any number may be stated, but the first pane that is missing ends the loop
		p := decodedPane(r)
		if r.Bad() || !k.mayBe(p, s) || !k.mayFollow(p, s.panes) {
			return state{}, false
		}
		s.panes = append(s.panes, p)
	}
	return s, r.Done()
}

// decodedPane reads a pane: the fields of a literal are worked out in the order in which they stand.
func decodedPane(r *pack.Reader) api.Pane {
	return api.Pane{
		Key:  r.Text(),
		Span: api.Span{From: r.Num(), To: r.Num()},
		Acc:  api.Acc{Count: r.Num(), Sum: r.Num(), Min: r.Num(), Max: r.Num()},
	}
}

// mayBe tells whether a keep with these windows could hold a pane in this group at this mark.
func (k *Keep) mayBe(p api.Pane, s state) bool {
	return len(p.Key) <= api.MaxKey && groups.Group(p.Key) == s.group &&
		p.Acc.Count >= 1 && k.isSpan(p.Span) && !window.Due(p.Span, s.mark)
}

// isSpan tells whether a pane may have this span.
func (k *Keep) isSpan(s api.Span) bool {
	if k.win.Kind == api.WinSession {
		return s.From >= 0 && s.From <= api.MaxTime && s.To >= s.From+k.win.Size && s.To <= api.MaxTime+k.win.Size
	}
	// A span that begins below 0 contains 0 if it contains any time of a record.
	spans, _ := window.Of(k.win, max(s.From, 0))
	return slices.Contains(spans, s)
}

// mayFollow tells whether a pane may stand behind those that are there.
func (k *Keep) mayFollow(p api.Pane, panes []api.Pane) bool {
	if len(panes) == 0 {
		return true
	}
	last := panes[len(panes)-1]
	if k.win.Kind == api.WinSession && p.Key == last.Key && p.Span.From < last.Span.To {
		return false
	}
	return byKey(last, p) < 0
}

// isGroup tells whether there is a group of this number.
func isGroup(group int) bool {
	return group >= 0 && group < api.Groups
}
