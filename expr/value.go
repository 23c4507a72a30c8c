package expr

import "strconv"

// value computes the value of an expression for a record.
type value func(n, t, v int) int

// number returns the expression of at most maxDigits digits.
func number(digits string) Expr {
	x, _ := strconv.Atoi(digits)
	return Expr{
		value: func(n, t, v int) int { return x },
		text:  strconv.Itoa(x),
		size:  1,
	}
}

// name returns the expression n, t or v. Its text is not word itself, which would keep the caller's whole text.
func name(word string) Expr {
	switch word {
	case "n":
		return Expr{value: func(n, t, v int) int { return n }, text: "n", size: 1}
	case "t":
		return Expr{value: func(n, t, v int) int { return t }, text: "t", size: 1}
	}
	return Expr{value: func(n, t, v int) int { return v }, text: "v", size: 1}
}

// prefix returns the expression of a prefix operator and its operand.
func prefix(sign string, x Expr) Expr {
	do, operand := negative, x.value
	if sign == "!" {
		do = not
	}
	return Expr{
		value: func(n, t, v int) int { return do(operand(n, t, v)) },
		text:  sign + x.text,
		size:  1 + x.size,
	}
}

// binary returns the expression of a binary operator and its operands.
func binary(sign string, a, b Expr) Expr {
	do, left, right := operation(sign), a.value, b.value
	return Expr{
		value: func(n, t, v int) int { return do(left(n, t, v), right(n, t, v)) },
		text:  "(" + a.text + " " + sign + " " + b.text + ")",
		size:  a.size + 1 + b.size,
	}
}

// operation returns what a binary operator does to the values of its operands.
func operation(sign string) func(a, b int) int {
	switch sign {
	case "*":
		return func(a, b int) int { return a * b }
	case "/":
		return quotient
	case "%":
		return remainder
	case "+":
		return func(a, b int) int { return a + b }
	case "-":
		return func(a, b int) int { return a - b }
	case "==":
		return func(a, b int) int { return truth(a == b) }
	case "!=":
		return func(a, b int) int { return truth(a != b) }
	case "<=":
		return func(a, b int) int { return truth(a <= b) }
	case ">=":
		return func(a, b int) int { return truth(a >= b) }
	case "<":
		return func(a, b int) int { return truth(a < b) }
	case ">":
		return func(a, b int) int { return truth(a > b) }
	case "&&":
		return func(a, b int) int { return truth(a != 0 && b != 0) }
	}
	return func(a, b int) int { return truth(a != 0 || b != 0) }
}

func negative(x int) int {
	return -x
}

func not(x int) int {
	return truth(x == 0)
}

func quotient(a, b int) int {
	if b == 0 {
		return 0
	}
	return a / b
}

func remainder(a, b int) int {
	if b == 0 {
		return 0
	}
	return a % b
}

func truth(b bool) int {
	if b {
		return 1
	}
	return 0
}
