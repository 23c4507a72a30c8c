package expr_test

import (
	"strings"
	"testing"
)

// levels are the binary operators, those that bind most strongly first.
var levels = [][]string{{"*", "/", "%"}, {"+", "-"}, {"==", "!=", "<=", ">=", "<", ">"}, {"&&"}, {"||"}}

// levelOf returns the place of an operator in levels.
func levelOf(sign string) int {
	for i, l := range levels {
		for _, s := range l {
			if s == sign {
				return i
			}
		}
	}
	return -1
}

func TestWhichOfTwoIsFirst(t *testing.T) { // the syntax: of each pair of binary operators, in both orders
	for _, a := range binaries {
		for _, b := range binaries {
			want := "((n " + a + " t) " + b + " v)"
			if levelOf(b) < levelOf(a) {
				want = "(n " + a + " (t " + b + " v))"
			}
			checkExpr(t, "n "+a+" t "+b+" v", want, 5)
			checkExpr(t, "n"+a+"t"+b+"v", want, 5)
			checkExpr(t, "(n "+a+" t) "+b+" v", "((n "+a+" t) "+b+" v)", 5)
			checkExpr(t, "n "+a+" (t "+b+" v)", "(n "+a+" (t "+b+" v))", 5)
		}
	}
}

func TestSameLevelToTheLeft(t *testing.T) { // the syntax: three operators of a level
	for _, level := range levels {
		for _, a := range level {
			for _, b := range level {
				for _, c := range level {
					want := "(((n " + a + " t) " + b + " v) " + c + " 1)"
					checkExpr(t, strings.Join([]string{"n", a, "t", b, "v", c, "1"}, " "), want, 7)
				}
			}
		}
	}
}

func TestPrefixesBindMostStrongly(t *testing.T) { // the syntax: also several in a row
	for _, p := range []string{"-", "!", "--", "!!", "-!", "!-", "---", "!-!-", "- !  -"} {
		flat := strings.ReplaceAll(p, " ", "")
		for _, b := range binaries {
			checkExpr(t, p+"n "+b+" t", "("+flat+"n "+b+" t)", 3+len(flat))
			checkExpr(t, "n "+b+" "+p+"t", "(n "+b+" "+flat+"t)", 3+len(flat))
			checkExpr(t, p+"n "+b+" "+p+"t "+b+" "+p+"v", "(("+flat+"n "+b+" "+flat+"t) "+b+" "+flat+"v)", 5+3*len(flat))
			checkExpr(t, p+"(n "+b+" t)", flat+"(n "+b+" t)", 3+len(flat))
		}
	}
}

func TestAllLevelsAtOnce(t *testing.T) { // the syntax
	checkExpr(t, "n || t && v == 1 + 2 * -3", "(n || (t && (v == (1 + (2 * -3)))))", 12)
	checkExpr(t, "-3 * 2 + 1 == v && t || n", "(((((-3 * 2) + 1) == v) && t) || n)", 12)
	checkExpr(t, "n || t && v || 1", "((n || (t && v)) || 1)", 7)
	checkExpr(t, "n * t + v * 1 < 2 - 3 / 4 && 5", "((((n * t) + (v * 1)) < (2 - (3 / 4))) && 5)", 15)
}

func TestOrderShowsInValues(t *testing.T) { // P4.2 and the syntax: the value is that of the text
	for text, want := range map[string]int{
		"2 + 3 * 4": 14, "2 * 3 + 4": 10, "20 - 7 % 4": 17, "20 % 7 - 4": 2, "9 - 8 / 3": 7,
		"2 * 3 == 6": 1, "6 == 2 * 3": 1, "5 < 2 * 3": 1, "2 * 3 > 5": 1, "2 * 0 && 3": 0, "3 && 0 * 2": 0, "2 * 0 || 3": 1, "3 || 2 * 0": 1,
		"1 + 2 == 3": 1, "3 == 1 + 2": 1, "1 + 0 && 0": 0, "0 && 0 + 1": 0, "0 + 0 || 4": 1, "4 || 1 - 1": 1,
		"0 == 0 && 0": 0, "0 && 0 == 0": 0, "0 < 0 || 5": 1, "5 || 0 != 0": 1,
		"1 || 1 && 0": 1, "0 && 1 || 1": 1,
		"7 - 2 - 1": 4, "7 - 2 + 1": 6, "24 / 4 / 2": 3, "24 / 4 * 2": 12, "24 * 4 / 3": 32, "7 % 4 * 2": 6, "7 * 4 % 5": 3,
		"3 > 2 > 1": 0, "1 < 3 < 2": 1, "2 == 2 == 2": 0, "2 == 2 == 1": 1, "5 != 5 != 1": 1, "0 <= 0 >= 2": 0,
		"-2 * 3": -6, "-2 + 3": 1, "!0 + 1": 2, "!2 == 0": 1, "-1 && 0": 0, "!1 || 0": 0, "!0 && 1": 1, "-3 % 2": -1, "-(3 % 2)": -1, "-(1 + 2)": -3, "!(0 + 1)": 0,
		"--5": 5, "---5": -5, "!!5": 1, "!-5": 0, "-!5": 0, "-!0": -1, "!-!5": 1, "!!0": 0,
	} {
		checkValue(t, text, 0, 0, 0, want)
	}
}
