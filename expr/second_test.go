package expr_test

import (
	"math/rand/v2"
	"regexp"
	"slices"
	"strconv"
	"strings"
	"testing"

	"watershed/api"
	"watershed/expr"
)

// This file reads the chapter a second time, by other means than the program's, to hold arbitrary texts against it.

var (
	wordForm   = regexp.MustCompile(`^(\|\||&&|==|!=|<=|>=|[<>+\-*/%!()]|[0-9]+|[A-Za-z]+)`)
	numberForm = regexp.MustCompile(`^[0-9]{1,18}$`)
	nameForm   = regexp.MustCompile(`^[ntv]$`)
)

// word is a token; value tells that it stood where a value was expected.
type word struct {
	text  string
	value bool
}

// wordsOf returns the tokens of a text, or the first error and its position.
func wordsOf(text string) (words []word, at int, f api.Errno) {
	if len(text) > maxExpr {
		return nil, 0, api.ErrLong
	}
	value, depth, parts := true, 0, 0
	for at < len(text) {
		if text[at] == ' ' {
			at++
			continue
		}
		w := wordForm.FindString(text[at:])
		leaf := numberForm.MatchString(w) || nameForm.MatchString(w)
		allowed := value && (leaf || slices.Contains(prefixes, w) || w == "(")
		allowed = allowed || !value && (slices.Contains(binaries, w) || w == ")" && depth > 0)
		if !allowed {
			return nil, at, api.ErrWord
		}
		words = append(words, word{w, value})
		switch {
		case w == "(":
			depth++
		case w == ")":
			depth--
		default:
			parts++
		}
		if parts > maxParts {
			return nil, at, api.ErrMany
		}
		if leaf || slices.Contains(binaries, w) && !value {
			value = !value
		}
		at += len(w)
	}
	if value || depth > 0 {
		return nil, len(text), api.ErrEnd
	}
	return words, 0, api.OK
}

// tree is an expression; kids are the operands of its operator.
type tree struct {
	sign string // or a number, or a name
	kids []*tree
}

// treeOf cuts tokens without an error at the operator that is done last: the weakest one, of several the last.
func treeOf(words []word) *tree {
	best, depth := -1, 0
	for i, w := range words {
		switch {
		case w.text == "(":
			depth++
		case w.text == ")":
			depth--
		case depth == 0 && !w.value && (best < 0 || levelOf(w.text) >= levelOf(words[best].text)):
			best = i
		}
	}
	switch {
	case best >= 0:
		return &tree{words[best].text, []*tree{treeOf(words[:best]), treeOf(words[best+1:])}}
	case words[0].text == "(":
		return treeOf(words[1 : len(words)-1])
	case len(words) > 1:
		return &tree{words[0].text, []*tree{treeOf(words[1:])}}
	}
	return &tree{sign: words[0].text}
}

func (x *tree) size() int {
	n := 1
	for _, k := range x.kids {
		n += k.size()
	}
	return n
}

func (x *tree) text() string {
	switch len(x.kids) {
	case 1:
		return x.sign + x.kids[0].text()
	case 2:
		return "(" + x.kids[0].text() + " " + x.sign + " " + x.kids[1].text() + ")"
	}
	if i := strings.IndexAny(x.sign, "123456789ntv"); i > 0 {
		return x.sign[i:]
	} else if i < 0 {
		return "0"
	}
	return x.sign
}

func (x *tree) value(r [3]int) int {
	switch len(x.kids) {
	case 1:
		return valueOfPrefix(x.sign, x.kids[0].value(r))
	case 2:
		return valueOf(x.sign, x.kids[0].value(r), x.kids[1].value(r))
	}
	if i := slices.Index(names, x.sign); i >= 0 {
		return r[i]
	}
	n, _ := strconv.Atoi(x.sign)
	return n
}

// someRecord returns the arguments of an Eval, edges and others.
func someRecord(s *rand.Rand) [3]int {
	var r [3]int
	for i := range r {
		switch s.IntN(3) {
		case 0:
			r[i] = edges[s.IntN(len(edges))]
		case 1:
			r[i] = s.IntN(7) - 3
		default:
			r[i] = int(s.Uint64() >> s.IntN(64))
		}
	}
	return r
}

// checkTree reports an expression that is not what a tree says.
func checkTree(t *testing.T, s *rand.Rand, e *expr.Expr, x *tree) {
	t.Helper()
	if e.Text() != x.text() || e.Size() != x.size() {
		t.Fatalf("Text = %q, Size = %d, want %q, %d", e.Text(), e.Size(), x.text(), x.size())
	}
	for range 4 {
		r := someRecord(s)
		if got, want := e.Eval(r[0], r[1], r[2]), x.value(r); got != want {
			t.Fatalf("%s: Eval(%d) = %d, want %d", x.text(), r, got, want)
		}
	}
}

// checkBoth holds what Parse makes of a text against the second reading, and returns the error that both give.
func checkBoth(t *testing.T, s *rand.Rand, text string) api.Errno {
	t.Helper()
	words, at, f := wordsOf(text)
	e, gotAt, got := expr.Parse(text)
	if got != f || gotAt != at || (e != nil) != (f == api.OK) {
		t.Fatalf("Parse(%q): an expression %t, at %d, %d, want at %d, %d", text, e != nil, gotAt, got, at, f)
	}
	if f == api.OK {
		checkTree(t, s, e, treeOf(words))
	}
	return f
}

func TestAllShortTexts(t *testing.T) { // P4.1 to P4.3: of these bytes
	const some = "v0nx <=!&|-+*()\t"
	s := rand.New(rand.NewPCG(1, 1))
	text := make([]byte, 4)
	for n := range len(text) + 1 {
		for i := range 1 << (4 * n) {
			for k := range n {
				text[k] = some[i>>(4*k)&15]
			}
			checkBoth(t, s, string(text[:n]))
		}
	}
}

// someWord returns a token: one that is allowed, most of the time.
func someWord(s *rand.Rand, value bool, depth int) string {
	if s.IntN(60) == 0 {
		return []string{"=", "&", "|", "x", "nt", "\t", "\xc3", "#", strings.Repeat("0", 19), "(", ")", "v", "!", "*", "!="}[s.IntN(15)]
	}
	if !value {
		if depth > 0 && s.IntN(4) == 0 {
			return ")"
		}
		return binaries[s.IntN(len(binaries))]
	}
	switch s.IntN(8) {
	case 0, 1:
		return prefixes[s.IntN(2)]
	case 2:
		return "("
	case 3, 4:
		return strconv.Itoa(int(s.Uint64()%1000000000000000000) / []int{1, 1000000000, 100000000000000000}[s.IntN(3)])
	case 5:
		return strings.Repeat("0", s.IntN(3)) + strconv.Itoa(s.IntN(20))
	}
	return names[s.IntN(3)]
}

// someText returns a text of some tokens: one without an error, often.
func someText(s *rand.Rand) string {
	var b strings.Builder
	value, depth := true, 0
	for n := s.IntN(110); ; n-- {
		w := someWord(s, value, depth)
		if n <= 0 && value && s.IntN(20) > 0 {
			w = "v"
		}
		switch {
		case w == "(":
			depth++
		case w == ")":
			depth--
		case slices.Contains(binaries, w) && !value:
			value = true
		case !slices.Contains(prefixes, w):
			value = false
		}
		b.WriteString(strings.Repeat(" ", max(0, s.IntN(9)-6)) + w)
		if n <= 0 && (!value || s.IntN(20) == 0) {
			break
		}
	}
	if s.IntN(10) > 0 {
		b.WriteString(strings.Repeat(")", max(0, depth)))
	}
	return b.String()
}

func TestArbitraryTexts(t *testing.T) { // P4.1 to P4.3
	s := rand.New(rand.NewPCG(1, 2))
	met := map[api.Errno]int{}
	for range 30000 {
		met[checkBoth(t, s, someText(s))]++
	}
	for _, f := range []api.Errno{api.OK, api.ErrLong, api.ErrWord, api.ErrMany, api.ErrEnd} {
		if met[f] < 100 {
			t.Errorf("the error %d was met %d times: the test has not met all", f, met[f])
		}
	}
}

func TestDamagedTexts(t *testing.T) { // P4.1, R1: whatever the bytes are
	s := rand.New(rand.NewPCG(1, 3))
	for range 30000 {
		b := []byte(someText(s))
		for range 1 + s.IntN(3) {
			at := s.IntN(len(b) + 1)
			if to := min(len(b), at+s.IntN(4)); s.IntN(2) == 0 && to-at < len(b) {
				b = slices.Delete(b, at, to)
			} else {
				b = slices.Insert(b, at, byte(s.Uint32()>>s.IntN(3)))
			}
		}
		checkBoth(t, s, string(b))
	}
}
