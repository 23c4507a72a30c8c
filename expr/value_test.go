package expr_test

import (
	"math"
	"math/big"
	"testing"
)

// wrapped returns the int that 64 bits hold of an integer.
func wrapped(x *big.Int) int {
	r := new(big.Int).And(x, new(big.Int).SetUint64(math.MaxUint64))
	return int(r.Uint64())
}

func truth(b bool) int {
	if b {
		return 1
	}
	return 0
}

// valueOf says the chapter again, with integers without bounds: the value of a binary operator.
func valueOf(sign string, a, b int) int {
	x, y, z := big.NewInt(int64(a)), big.NewInt(int64(b)), new(big.Int)
	switch sign {
	case "+":
		return wrapped(z.Add(x, y))
	case "-":
		return wrapped(z.Sub(x, y))
	case "*":
		return wrapped(z.Mul(x, y))
	case "/":
		if b != 0 {
			z.Quo(x, y)
		}
		return wrapped(z)
	case "%":
		if b != 0 {
			z.Rem(x, y)
		}
		return wrapped(z)
	case "&&":
		return truth(x.Sign() != 0 && y.Sign() != 0)
	case "||":
		return truth(x.Sign() != 0 || y.Sign() != 0)
	}
	c := x.Cmp(y)
	return map[string]int{"==": truth(c == 0), "!=": truth(c != 0), "<=": truth(c <= 0), ">=": truth(c >= 0), "<": truth(c < 0), ">": truth(c > 0)}[sign]
}

// valueOfPrefix says it of a prefix operator.
func valueOfPrefix(sign string, a int) int {
	if sign == "!" {
		return truth(a == 0)
	}
	return wrapped(new(big.Int).Neg(big.NewInt(int64(a))))
}

// edges are integers at the ends of the range, around 0, and where products begin to wrap around.
var edges = []int{
	math.MinInt, math.MinInt + 1, math.MinInt + 2, math.MinInt / 2, -1000000000000000000, -999999999999999999, -1 << 32, -3037000500, -1000, -8, -7, -3, -2, -1,
	0, 1, 2, 3, 7, 8, 1000, 3037000499, 3037000500, 1 << 32, 999999999999999999, 1 << 62, math.MaxInt/2 + 1, math.MaxInt - 1, math.MaxInt,
}

func TestBinaryOperators(t *testing.T) { // P4.2: each of them, of each pair of edges
	for _, sign := range binaries {
		e := parsed(t, "n "+sign+" v")
		for _, a := range edges {
			for _, b := range edges {
				if got, want := e.Eval(a, 5, b), valueOf(sign, a, b); got != want {
					t.Errorf("%d %s %d = %d, want %d", a, sign, b, got, want)
				}
			}
		}
	}
}

func TestPrefixOperators(t *testing.T) { // P4.2
	for _, sign := range prefixes {
		e := parsed(t, sign+"t")
		for _, a := range edges {
			if got, want := e.Eval(5, a, 7), valueOfPrefix(sign, a); got != want {
				t.Errorf("%s of %d = %d, want %d", sign, a, got, want)
			}
		}
	}
}

func TestWraparound(t *testing.T) { // P4.2
	for _, c := range []struct {
		text string
		v    int
		want int
	}{
		{"v + 1", math.MaxInt, math.MinInt},
		{"v - 1", math.MinInt, math.MaxInt},
		{"v + v", math.MinInt, 0},
		{"v + v", math.MaxInt, -2},
		{"-v", math.MinInt, math.MinInt},
		{"-v", math.MaxInt, math.MinInt + 1},
		{"0 - v", math.MinInt, math.MinInt},
		{"v * 2", math.MaxInt, -2},
		{"v * -1", math.MinInt, math.MinInt},
		{"v * v", math.MinInt, 0},
		{"v * v", math.MaxInt, 1},
		{"v * v", 1 << 32, 0},
		{"v * v", 3037000500, -9223372036709301616},
		{"999999999999999999 * 10", 0, 9999999999999999990 - 1<<64},
		{"999999999999999999 * 999999999999999999", 0, -7527149226598858751},
	} {
		checkValue(t, c.text, 0, 0, c.v, c.want)
	}
}

func TestDivision(t *testing.T) { // P4.2: towards 0; by 0 and by -1
	for _, c := range []struct{ a, b, quotient, remainder int }{
		{7, 2, 3, 1}, {-7, 2, -3, -1}, {7, -2, -3, 1}, {-7, -2, 3, -1},
		{6, 3, 2, 0}, {-6, 3, -2, 0}, {6, -3, -2, 0}, {1, 2, 0, 1}, {-1, 2, 0, -1}, {1, -2, 0, 1}, {-1, -2, 0, -1}, {0, 5, 0, 0}, {0, -5, 0, 0},
		{7, 0, 0, 0}, {-7, 0, 0, 0}, {0, 0, 0, 0}, {math.MinInt, 0, 0, 0}, {math.MaxInt, 0, 0, 0},
		{7, -1, -7, 0}, {-7, -1, 7, 0}, {0, -1, 0, 0}, {math.MaxInt, -1, -math.MaxInt, 0}, {math.MinInt, -1, math.MinInt, 0}, {math.MinInt + 1, -1, math.MaxInt, 0},
		{math.MinInt, 1, math.MinInt, 0}, {math.MinInt, 2, math.MinInt / 2, 0}, {math.MinInt, math.MinInt, 1, 0}, {math.MinInt, math.MaxInt, -1, -1},
		{math.MaxInt, math.MinInt, 0, math.MaxInt}, {math.MaxInt, math.MaxInt, 1, 0}, {5, math.MinInt, 0, 5}, {-5, math.MaxInt, 0, -5},
	} {
		checkValue(t, "n / v", c.a, 0, c.b, c.quotient)
		checkValue(t, "n % v", c.a, 0, c.b, c.remainder)
	}
	checkValue(t, "5 / (v - v) + 5 % (v - v) + 1", 0, 0, 9, 1)
	checkValue(t, "(0 - 9223372036854775 * 1000 - 808) / -1", 0, 0, 0, math.MinInt)
	checkValue(t, "(0 - 9223372036854775 * 1000 - 808) % -1", 0, 0, 0, 0)
}

func TestTruths(t *testing.T) { // P4.2: comparisons, && and || are 1 or 0, ! too, whatever the operands are
	for _, c := range []struct {
		text string
		a, b int
		want int
	}{
		{"n && v", 2, 3, 1}, {"n && v", -1, 1, 1}, {"n && v", 1, -1, 1}, {"n && v", 1, 2, 1}, {"n && v", 0, 3, 0}, {"n && v", 3, 0, 0}, {"n && v", 0, 0, 0}, {"n && v", math.MinInt, math.MinInt, 1},
		{"n || v", 2, 3, 1}, {"n || v", 0, -3, 1}, {"n || v", 4, 0, 1}, {"n || v", 0, 0, 0}, {"n || v", 1, -1, 1}, {"n || v", math.MinInt, 0, 1},
		{"n == v", 5, 5, 1}, {"n == v", 5, 4, 0}, {"n != v", 5, 5, 0}, {"n != v", 5, 4, 1},
		{"n < v", 4, 5, 1}, {"n < v", 5, 5, 0}, {"n < v", 5, 4, 0}, {"n <= v", 4, 5, 1}, {"n <= v", 5, 5, 1}, {"n <= v", 5, 4, 0},
		{"n > v", 4, 5, 0}, {"n > v", 5, 5, 0}, {"n > v", 5, 4, 1}, {"n >= v", 4, 5, 0}, {"n >= v", 5, 5, 1}, {"n >= v", 5, 4, 1},
		{"n < v", math.MinInt, math.MaxInt, 1}, {"n > v", math.MinInt, math.MaxInt, 0}, {"n < v", -1, 0, 1},
		{"!n", 0, 9, 1}, {"!n", 1, 9, 0}, {"!n", -1, 9, 0}, {"!n", math.MinInt, 9, 0}, {"!!n", 7, 9, 1},
	} {
		checkValue(t, c.text, c.a, 0, c.b, c.want)
	}
}

func TestOperandsAreBothComputed(t *testing.T) { // P4.2: a division by 0 behind && and || harms nothing
	checkValue(t, "v && 1 / 0", 0, 0, 1, 0)
	checkValue(t, "1 / 0 && v", 0, 0, 1, 0)
	checkValue(t, "v || 1 % 0", 0, 0, 1, 1)
	checkValue(t, "1 % 0 || v", 0, 0, 1, 1)
}

func TestArgumentsAreNotMixedUp(t *testing.T) { // P4.2
	e := parsed(t, "n * 10000 + t * 100 + v")
	for _, c := range [][4]int{{1, 2, 3, 10203}, {3, 2, 1, 30201}, {0, 0, 5, 5}, {0, 5, 0, 500}, {5, 0, 0, 50000}} {
		if got := e.Eval(c[0], c[1], c[2]); got != c[3] {
			t.Errorf("Eval(%d, %d, %d) = %d, want %d", c[0], c[1], c[2], got, c[3])
		}
	}
	checkValue(t, "n - t", 9, 4, 1, 5)
	checkValue(t, "t - n", 9, 4, 1, -5)
	checkValue(t, "n - v * t", 9, 4, 2, 1)
}
