package expr_test

import (
	"math/rand/v2"
	"strconv"
	"strings"
	"testing"

	"watershed/api"
	"watershed/expr"
)

// someTree returns a tree of n parts.
func someTree(s *rand.Rand, n int) *tree {
	switch {
	case n == 1 && s.IntN(2) == 0:
		return &tree{sign: names[s.IntN(3)]}
	case n == 1:
		return &tree{sign: strconv.Itoa(s.IntN(30))}
	case n == 2 || s.IntN(4) == 0:
		return &tree{prefixes[s.IntN(2)], []*tree{someTree(s, n-1)}}
	}
	left := 1 + s.IntN(n-2)
	return &tree{binaries[s.IntN(len(binaries))], []*tree{someTree(s, left), someTree(s, n-1-left)}}
}

// words returns the tokens of a tree with no more parentheses than it needs, and some more of them.
func (x *tree) words(s *rand.Rand, more int) []string {
	kid := func(i int, needed bool) []string {
		l := x.kids[i].words(s, more)
		if needed || s.IntN(100) < more {
			l = append(append([]string{"("}, l...), ")")
		}
		return l
	}
	binary := func(i int) bool { return len(x.kids[i].kids) == 2 }
	switch len(x.kids) {
	case 0:
		return []string{x.sign}
	case 1:
		return append([]string{x.sign}, kid(0, binary(0))...)
	}
	left := kid(0, binary(0) && levelOf(x.kids[0].sign) > levelOf(x.sign))
	right := kid(1, binary(1) && levelOf(x.kids[1].sign) >= levelOf(x.sign))
	return append(append(left, x.sign), right...)
}

func TestParsesWhatIsWritten(t *testing.T) { // P4.2, P4.3: with few parentheses and many, with blanks and without
	s := rand.New(rand.NewPCG(1, 4))
	long := 0
	for range 20000 {
		x := someTree(s, 1+s.IntN(maxParts))
		words := x.words(s, s.IntN(3)*20)
		text := strings.Join(words, strings.Repeat(" ", s.IntN(2)))
		if len(text) > maxExpr {
			checkFault(t, text, 0, api.ErrLong)
			long++
			continue
		}
		checkTree(t, s, parsed(t, text), x)
	}
	if long > 10000 {
		t.Errorf("%d texts were too long", long)
	}
}

func TestTextIsParsedAgain(t *testing.T) { // P4.5
	s := rand.New(rand.NewPCG(1, 5))
	short, long := 0, 0
	for range 20000 {
		e, _, f := expr.Parse(someText(s))
		if f != api.OK {
			continue
		}
		text := e.Text()
		if len(text) > maxExpr {
			checkFault(t, text, 0, api.ErrLong)
			long++
			continue
		}
		short++
		again := parsed(t, text)
		if again.Text() != text || again.Size() != e.Size() {
			t.Fatalf("%q, parsed again: Text = %q, Size = %d, want %d", text, again.Text(), again.Size(), e.Size())
		}
		for range 4 {
			r := someRecord(s)
			if got, want := again.Eval(r[0], r[1], r[2]), e.Eval(r[0], r[1], r[2]); got != want {
				t.Fatalf("%q, parsed again: Eval(%d) = %d, was %d", text, r, got, want)
			}
		}
	}
	if short < 1000 || long < 100 {
		t.Errorf("%d texts were short enough, %d too long: the test has not met both", short, long)
	}
}

func TestTextOfTheGreatestLength(t *testing.T) { // P4.5: 200 bytes, and one more
	text := parsed(t, strings.Repeat("v<=", 27)+"12345678901").Text()
	if len(text) != maxExpr {
		t.Fatalf("%q has %d bytes", text, len(text))
	}
	checkExpr(t, text, text, 55)
	text = parsed(t, strings.Repeat("v<=", 27)+"123456789012").Text()
	if len(text) != maxExpr+1 {
		t.Fatalf("%q has %d bytes", text, len(text))
	}
	checkFault(t, text, 0, api.ErrLong)
}

func TestBlanksMakeNoDifference(t *testing.T) { // P4.5
	s := rand.New(rand.NewPCG(1, 6))
	for range 3000 {
		x := someTree(s, 1+s.IntN(20))
		words := x.words(s, 10)
		for range 3 {
			var b strings.Builder
			for _, w := range words {
				b.WriteString(strings.Repeat(" ", s.IntN(3)) + w)
			}
			text := b.String() + strings.Repeat(" ", s.IntN(3))
			if len(text) <= maxExpr {
				checkTree(t, s, parsed(t, text), x)
			}
		}
	}
}

func TestParenthesesAroundTheWholeMakeNoDifference(t *testing.T) { // P4.5
	s := rand.New(rand.NewPCG(1, 7))
	for range 3000 {
		x := someTree(s, 1+s.IntN(20))
		text := strings.Join(x.words(s, 10), "")
		for range 1 + s.IntN(4) {
			text = "(" + text + ")"
		}
		if len(text) <= maxExpr {
			checkTree(t, s, parsed(t, text), x)
		}
	}
}
