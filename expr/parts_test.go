package expr_test

import (
	"strings"
	"testing"

	"watershed/api"
)

// The texts of 64 parts, behind which an operator or a value is expected.
var (
	fullValues = []string{
		"-" + strings.Repeat("v+", 31) + "v",
		strings.Repeat("!", 63) + "7",
		strings.Repeat("-v*", 21) + "n",
		strings.Repeat("(", 5) + "!" + strings.Repeat("t<", 31) + "2" + strings.Repeat(")", 5),
	}
	fullPrefixes = []string{
		strings.Repeat("v+", 32),
		strings.Repeat("-", 64),
		strings.Repeat("1 % ", 32),
		"((" + strings.Repeat("!", 64),
		strings.Repeat("-", 32) + strings.Repeat("n&&", 16),
	}
)

func TestAsManyPartsAsAllowed(t *testing.T) { // P4.1, P4.3: 64
	for _, text := range fullValues {
		for _, more := range []string{"", " ", "  "} {
			if got := parsed(t, text+more).Size(); got != maxParts {
				t.Errorf("%q: Size = %d", text+more, got)
			}
		}
		if got := parsed(t, "("+text+")").Size(); got != maxParts { // a parenthesis is no part
			t.Errorf("(%q): Size = %d", text, got)
		}
	}
	for _, text := range fullPrefixes {
		checkFault(t, text, len(text), api.ErrEnd)
		checkFault(t, text+"((", len(text)+2, api.ErrEnd)
	}
}

func TestTheNextPart(t *testing.T) { // P4.1: ErrMany at the 65th, whatever part it is and whatever is behind it
	behind := []string{"", " ", "v", " v", "#", ")", "("}
	for _, text := range fullValues {
		for _, word := range binaries {
			for _, b := range behind {
				checkFault(t, text+word+b, len(text), api.ErrMany)
				checkFault(t, text+"  "+word+b, len(text)+2, api.ErrMany)
			}
			checkFault(t, "("+text+word, len(text)+1, api.ErrMany)
			checkFault(t, "("+text+")"+word, len(text)+2, api.ErrMany)
		}
	}
	for _, text := range fullPrefixes {
		for _, word := range []string{"n", "t", "v", "7", "007", "-", "!"} {
			for _, b := range []string{"", " ", " v", "#", ")", "("} {
				checkFault(t, text+word+b, len(text), api.ErrMany)
				checkFault(t, text+" "+word+b, len(text)+1, api.ErrMany)
				checkFault(t, text+"("+word+b, len(text)+1, api.ErrMany)
			}
		}
	}
}

func TestWhatIsNotAllowedIsNoPart(t *testing.T) { // P4.1: ErrWord, not ErrMany, where it would be the 65th
	for _, text := range fullValues {
		for _, word := range []string{"7", "v", "!", "(", ")", "x", "vt", "=", "&", "|", "#", "\t", "\x80", strings.Repeat("1", 19)} {
			checkFault(t, text+" "+word, len(text)+1, api.ErrWord)
			checkFault(t, text+" "+word+" + 1", len(text)+1, api.ErrWord)
		}
		checkFault(t, "("+text+"))", len(text)+2, api.ErrWord)
	}
	for _, text := range fullPrefixes {
		for _, word := range []string{")", "||", "&&", "==", "!=", "<=", ">=", "<", ">", "+", "*", "/", "%", "x", "vt", "=", "&", "|", "#", "\t", "\x80", strings.Repeat("1", 19)} {
			if text[len(text)-1] == '!' && word[0] == '=' {
				continue // the two would be one token
			}
			checkFault(t, text+word, len(text), api.ErrWord)
			checkFault(t, text+" "+word+" v", len(text)+1, api.ErrWord)
		}
	}
}

func TestManyPartsBehindAnError(t *testing.T) { // P4.1: the first error counts, whichever it is
	many := strings.Repeat("v+", 50)
	checkFault(t, "v v+"+many, 2, api.ErrWord)
	checkFault(t, many[:62]+"#+"+many, 62, api.ErrWord)
	checkFault(t, many+"#", 64, api.ErrMany)
	checkFault(t, many, 64, api.ErrMany)
	checkFault(t, strings.Repeat("-", 200), 64, api.ErrMany)
	checkFault(t, strings.Repeat("-(", 100), 128, api.ErrMany)
	checkFault(t, strings.Repeat("(", 100)+strings.Repeat("-", 65), 164, api.ErrMany)
}

func TestSizes(t *testing.T) { // P4.3: each number, name and operator is a part
	for text, size := range map[string]int{
		"v": 1, "123456": 1, "-v": 2, "!!v": 3, "v + 1": 3, "v+1*t": 5, "-v+-1": 5, "v!=1": 3, "v&&1||t": 5,
		"(((v)))": 1, "((v) + (1))": 3, "-(v)": 2, "n*100+t*10+v": 9, "!(n<=t)": 4,
	} {
		if got := parsed(t, text).Size(); got != size {
			t.Errorf("%q: Size = %d, want %d", text, got, size)
		}
	}
}
