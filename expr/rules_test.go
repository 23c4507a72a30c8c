package expr_test

import (
	"math"
	"strings"
	"testing"
	"unsafe"

	"watershed/api"
	"watershed/expr"
)

func TestNoExpression(t *testing.T) { // P4.4, R3
	failed, _, _ := expr.Parse("v +")
	for _, e := range []*expr.Expr{nil, failed} {
		if e != nil {
			t.Fatal("an expression beside an error")
		}
		for _, x := range edges {
			if got := e.Eval(x, x, x); got != 0 {
				t.Errorf("Eval = %d", got)
			}
		}
		if e.Text() != "" || e.Size() != 0 {
			t.Errorf("Text = %q, Size = %d", e.Text(), e.Size())
		}
	}
}

func TestEmptyExpression(t *testing.T) { // R1: no call returns one, but none panics on it
	var e expr.Expr
	if e.Eval(1, 2, 3) != 0 || e.Text() != "" || e.Size() != 0 {
		t.Errorf("Eval = %d, Text = %q, Size = %d", e.Eval(1, 2, 3), e.Text(), e.Size())
	}
}

func TestErrorsStandAlone(t *testing.T) { // R1, P4.1: no expression beside one, and no position beside none
	for _, text := range []string{"", "v +", "(v", "v v", "#", strings.Repeat("v+", 33), strings.Repeat("v", 201)} {
		if e, _, f := expr.Parse(text); e != nil || f == api.OK {
			t.Errorf("Parse(%q): an expression %t, %d", text, e != nil, f)
		}
	}
	if _, at, f := expr.Parse("   v"); at != 0 || f != api.OK {
		t.Errorf("Parse: at %d, %d", at, f)
	}
}

func TestTextsAreNotRetained(t *testing.T) { // R2: whatever becomes of the caller's memory
	for text, want := range map[string]string{"n": "n", "t": "t", "v": "v", "7": "7", "007": "7", "-v": "-v", "(v)": "v", "v <= 10 && !t": "((v <= 10) && !t)"} {
		b := []byte(text)
		e, _, f := expr.Parse(unsafe.String(&b[0], len(b)))
		if f != api.OK {
			t.Fatalf("Parse(%q) = %d", text, f)
		}
		before := e.Eval(2, 0, 5)
		if string(b) != text {
			t.Errorf("%q has become %q", text, b)
		}
		for i := range b {
			b[i] = '#'
		}
		if e.Text() != want || e.Eval(2, 0, 5) != before {
			t.Errorf("%q: Text has become %q, Eval %d, was %d", text, e.Text(), e.Eval(2, 0, 5), before)
		}
	}
}

func TestCallsChangeNothing(t *testing.T) { // R2: an expression is the same after each call
	e := parsed(t, "v * 2 + t / n")
	for _, c := range [][4]int{{2, 10, 3, 11}, {0, 10, 3, 6}, {-1, math.MinInt, 0, math.MinInt}, {2, 10, 3, 11}} {
		for range 3 {
			if got := e.Eval(c[0], c[1], c[2]); got != c[3] {
				t.Errorf("Eval(%d, %d, %d) = %d, want %d", c[0], c[1], c[2], got, c[3])
			}
			if e.Text() != "((v * 2) + (t / n))" || e.Size() != 7 {
				t.Errorf("Text = %q, Size = %d", e.Text(), e.Size())
			}
		}
	}
}

func TestExpressionsAreApart(t *testing.T) { // R2: also those of one text, and those between which a Parse failed
	texts := []string{"v + 1", "v + 2", "v + 1", "-v", "n", "t", "v", "5", "6", "v * v"}
	wants := []int{8, 9, 8, -7, 3, 4, 7, 5, 6, 49}
	var all []*expr.Expr
	for _, text := range texts {
		all = append(all, parsed(t, text))
		expr.Parse(text + " #")
	}
	for range 2 {
		for i, e := range all {
			if got := e.Eval(3, 4, 7); got != wants[i] {
				t.Errorf("%q: Eval = %d, want %d", texts[i], got, wants[i])
			}
		}
	}
}
