package expr

import "strings"

// Kinds of tokens.
const (
	noToken = iota // none begins there
	endToken
	numberToken
	nameToken
	signToken // an operator or a parenthesis
)

const maxDigits = 18 // of a number: so many always fit into an int

type token struct {
	kind int
	at   int // its position in the text
	text string
}

// tokenFrom returns the first token at or behind a position.
func tokenFrom(text string, at int) token {
	for at < len(text) && text[at] == ' ' {
		at++
	}
	if at == len(text) {
		return token{kind: endToken, at: at}
	}
	kind, n := measured(text[at:])
	return token{kind: kind, at: at, text: text[at : at+n]}
}

// measured returns the kind and the length of the token that rest, which is not empty, begins with.
func measured(rest string) (kind, n int) {
	if n := run(rest, isDigit); n > 0 {
		if n > maxDigits {
			return noToken, 0
		}
		return numberToken, n
	}
	if n := run(rest, isLetter); n > 0 {
		if !isName(rest[:n]) {
			return noToken, 0
		}
		return nameToken, n
	}
	if n := signLength(rest); n > 0 {
		return signToken, n
	}
	return noToken, 0
}

// run returns how many bytes of one kind s begins with.
func run(s string, kind func(c byte) bool) int {
	n := 0
	for n < len(s) && kind(s[n]) {
		n++
	}
	return n
}

func isDigit(c byte) bool {
	return '0' <= c && c <= '9'
}

func isLetter(c byte) bool {
	return 'a' <= c && c <= 'z' || 'A' <= c && c <= 'Z'
}

func isName(word string) bool {
	return word == "n" || word == "t" || word == "v"
}

// signLength returns the length of the longest sign that rest, which is not empty, begins with: 0 if there is none.
func signLength(rest string) int {
	if len(rest) > 1 {
		switch rest[:2] {
		case "||", "&&", "==", "!=", "<=", ">=":
			return 2
		}
	}
	if strings.IndexByte("<>+-*/%!()", rest[0]) >= 0 {
		return 1
	}
	return 0
}
