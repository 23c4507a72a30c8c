package expr_test

import (
	"strings"
	"testing"

	"watershed/api"
	"watershed/expr"
)

const (
	maxExpr  = 200
	maxParts = 64
)

// The operators, and what else there is, in the words of the chapter.
var (
	binaries = []string{"||", "&&", "==", "!=", "<=", ">=", "<", ">", "+", "-", "*", "/", "%"}
	prefixes = []string{"-", "!"}
	names    = []string{"n", "t", "v"}
)

// parsed returns the expression of a text that must have no error.
func parsed(t *testing.T, text string) *expr.Expr {
	t.Helper()
	e, at, f := expr.Parse(text)
	if e == nil || at != 0 || f != api.OK {
		t.Fatalf("Parse(%q): an expression %t, at %d, %d", text, e != nil, at, f)
	}
	return e
}

// checkExpr reports a text that does not give an expression of that text and size.
func checkExpr(t *testing.T, text, want string, size int) {
	t.Helper()
	e := parsed(t, text)
	if e.Text() != want || e.Size() != size {
		t.Errorf("%q: Text = %q, Size = %d, want %q, %d", text, e.Text(), e.Size(), want, size)
	}
}

// checkFault reports a text that does not give this error at this position, and nothing beside it.
func checkFault(t *testing.T, text string, at int, f api.Errno) {
	t.Helper()
	if e, gotAt, got := expr.Parse(text); e != nil || gotAt != at || got != f {
		t.Errorf("Parse(%q): an expression %t, at %d, %d, want at %d, %d", text, e != nil, gotAt, got, at, f)
	}
}

// checkValue reports a text whose value for a record is another one.
func checkValue(t *testing.T, text string, n, tm, v, want int) {
	t.Helper()
	if got := parsed(t, text).Eval(n, tm, v); got != want {
		t.Errorf("%q: Eval(%d, %d, %d) = %d, want %d", text, n, tm, v, got, want)
	}
}

func TestExamples(t *testing.T) {
	checkExpr(t, "v+1*t", "(v + (1 * t))", 5)
	checkValue(t, "v+1*t", 0, 3, 4, 7)
	// The table says Size 10 here. By what parts are, and by P4.3, there are 11: three numbers, two names, two prefix operators, four binary ones.
	checkExpr(t, "-v % 3 == 0 && !(t < 10)", "(((-v % 3) == 0) && !(t < 10))", 11)
	checkExpr(t, "1 - 2 - 3", "((1 - 2) - 3)", 5)
	checkExpr(t, "007", "7", 1)
	checkExpr(t, "--v", "--v", 3)
	checkFault(t, "v +", 3, api.ErrEnd)
	checkFault(t, "", 0, api.ErrEnd)
	checkFault(t, "(v", 2, api.ErrEnd)
	checkFault(t, "v v", 2, api.ErrWord)
	checkFault(t, "vt", 0, api.ErrWord)
	checkFault(t, "v = 1", 2, api.ErrWord)
	checkFault(t, "!=1", 0, api.ErrWord)
	checkFault(t, "v)", 1, api.ErrWord)
	checkValue(t, "7 / 0", 0, 0, 0, 0)
	checkValue(t, "-7 / 2", 0, 0, 0, -3)
	checkValue(t, "-7 % 2", 0, 0, 0, -1)
}

func TestLengthOfAText(t *testing.T) { // P4.1: 200 bytes are allowed, 201 are not, whatever they are
	pad := func(s string, n int) string { return s + strings.Repeat(" ", n-len(s)) }
	checkExpr(t, pad("v", maxExpr), "v", 1)
	checkExpr(t, strings.Repeat(" ", maxExpr-1)+"v", "v", 1)
	checkFault(t, pad("v +", maxExpr), maxExpr, api.ErrEnd)
	checkFault(t, strings.Repeat(" ", maxExpr-1)+"#", maxExpr-1, api.ErrWord)
	for _, text := range []string{"v", "", "v +", "#", "v v", strings.Repeat("v+", 40)} {
		checkFault(t, pad(text, maxExpr+1), 0, api.ErrLong)
		checkFault(t, pad(text, 1<<20), 0, api.ErrLong)
	}
}

func TestNumbers(t *testing.T) { // P4.1, P4.3: of at most 18 digits, leading zeros among them
	for text, want := range map[string]int{
		"0": 0, "7": 7, "00": 0, "007": 7, "10": 10, "0100": 100,
		"999999999999999999": 999999999999999999,
		"100000000000000000": 100000000000000000,
		"000000000000000000": 0,
		"000000000000000001": 1,
		"012345678901234567": 12345678901234567,
	} {
		checkValue(t, text, 1, 2, 3, want)
		digits := strings.TrimLeft(text[:len(text)-1], "0") + text[len(text)-1:]
		checkExpr(t, text, digits, 1)
		checkExpr(t, "-"+text+"*"+text, "(-"+digits+" * "+digits+")", 4)
	}
	for _, long := range []string{"1000000000000000000", "0000000000000000000", "0000000000000000001", strings.Repeat("9", 19), strings.Repeat("1", 40), strings.Repeat("0", maxExpr)} {
		checkFault(t, long, 0, api.ErrWord)
		if len(long) < 100 {
			checkFault(t, " v + "+long+" +", 5, api.ErrWord)
			checkFault(t, "v "+long, 2, api.ErrWord)
		}
	}
	checkFault(t, "1 2", 2, api.ErrWord)
	checkFault(t, strings.Repeat("1", 18)+" 1", 19, api.ErrWord)
}

func TestNames(t *testing.T) { // P4.1, P4.2: n, t and v alone; the letters that follow each other are one name
	for i, name := range names {
		checkExpr(t, name, name, 1)
		want := []int{11, 22, 33}[i]
		checkValue(t, name, 11, 22, 33, want)
	}
	for c := range 256 {
		word := string([]byte{byte(c)})
		if c >= 'A' && c <= 'Z' || c >= 'a' && c <= 'z' && !strings.Contains("ntv", word) {
			checkFault(t, word, 0, api.ErrWord)
			checkFault(t, "n + "+word, 4, api.ErrWord)
			checkFault(t, "n"+word, 0, api.ErrWord)
			checkFault(t, word+"v", 0, api.ErrWord)
		}
	}
	for _, word := range []string{"nn", "tt", "vv", "nt", "tv", "vn", "ntv", "vvvvvvvv", "key", "time", "value", "N", "T", "V", "vV"} {
		checkFault(t, word, 0, api.ErrWord)
		checkFault(t, "-("+word+")", 2, api.ErrWord)
		checkFault(t, "v "+word, 2, api.ErrWord)
	}
	checkFault(t, "v1", 1, api.ErrWord) // two tokens, of which the second is not allowed
	checkFault(t, "1v", 1, api.ErrWord)
	checkFault(t, "v_", 1, api.ErrWord)
}

// begins are all bytes with which a token begins, if it is a single byte: the others are none alone.
const begins = "0123456789ntv<>+-*/%!()"

func TestBytesThatBeginNoToken(t *testing.T) { // P4.1
	for c := range 256 {
		b := string([]byte{byte(c)})
		if b == " " || strings.Contains(begins, b) {
			continue
		}
		checkFault(t, b, 0, api.ErrWord)
		checkFault(t, "  "+b, 2, api.ErrWord)
		checkFault(t, b+"v", 0, api.ErrWord)
		checkFault(t, "v+"+b, 2, api.ErrWord)
		checkFault(t, "(v "+b+" 1", 3, api.ErrWord)
		checkFault(t, "v "+b+" 1", 2, api.ErrWord)
	}
	for _, text := range []string{"v\t+ 1", "v\n", "v\r", "v\x00", "v\u00a0", "v\x80", "v\xff", "v=1", "v&1", "v|1", "v^1", "v~1", "v.1", "v,1", "v'", "v\"", "v;"} {
		checkFault(t, text, 1, api.ErrWord)
	}
	for _, text := range []string{"\tv", "\nv", "\ufeffv", "\u00e9", "\x80v", "\xc3\x28", "=v", "=", "&", "|", "&v", "|v"} {
		checkFault(t, text, 0, api.ErrWord)
	}
}

func TestTheLongestIsTheToken(t *testing.T) { // P4.1: also where a shorter one would be allowed
	for text, at := range map[string]int{
		"!=1": 0, "!==1": 0, "v+!=1": 2, "(!=1)": 1, "-!=1": 1, "!!=1": 1,
		"v===1": 3, "v<==1": 3, "v!==1": 3, "v>==1": 3, "v=>1": 1, "v=<1": 1,
		"v&&&1": 3, "v|||1": 3, "v&& &1": 4, "v& &1": 1, "v| |1": 1, "v= =1": 1,
		"v! =1": 1, "v< =1": 3, "v> =1": 3, "v<>1": 2, "v><1": 2, "v<<1": 2, "v&&&&1": 3, "v||||1": 3,
		"v**1": 2, "v//1": 2, "v%%1": 2, "v++1": 2, "v+*1": 2,
	} {
		checkFault(t, text, at, api.ErrWord)
	}
	checkExpr(t, "v!=!1", "(v != !1)", 4)
	checkExpr(t, "v==-1", "(v == -1)", 4)
	checkExpr(t, "v<-1", "(v < -1)", 4)
	checkExpr(t, "v<=-1", "(v <= -1)", 4)
	checkExpr(t, "v--1", "(v - -1)", 4)
	checkExpr(t, "v---1", "(v - --1)", 5)
	checkExpr(t, "v&&!t", "(v && !t)", 4)
	checkExpr(t, "!v==1", "(!v == 1)", 4)
}

func TestWhereAValueIsExpected(t *testing.T) { // P4.1
	for _, ahead := range []string{"", " ", "-", "!", "(", "((", "v+", "v + ", "v||-", "(v)*", "-(!(", "1<("} {
		for _, word := range append([]string{")"}, binaries...) {
			if word == "-" || strings.HasSuffix(ahead, "!") && word == "==" { // the latter two would be one token and a byte
				continue
			}
			checkFault(t, ahead+word, len(ahead), api.ErrWord)
			checkFault(t, ahead+word+" v", len(ahead), api.ErrWord)
		}
		checkFault(t, ahead, len(ahead), api.ErrEnd)
		checkFault(t, ahead+"  ", len(ahead)+2, api.ErrEnd)
		closed := strings.Repeat(")", strings.Count(ahead, "(")-strings.Count(ahead, ")"))
		for _, word := range []string{"7", "n", "t", "v", "-v", "!v", "(v)", "- v", "! v", "( v )"} {
			parsed(t, ahead+word+closed)
		}
		for _, word := range []string{"-", "!", "(", "- ", "!  ", "( ", "-!(-"} {
			checkFault(t, ahead+word, len(ahead+word), api.ErrEnd)
		}
	}
}

func TestWhereAnOperatorIsExpected(t *testing.T) { // P4.1
	for _, ahead := range []string{"v", "7 ", "-v", "!v", "(v)", "((v))", "v+1", "(v)*(1)", "-(!(v))"} {
		for _, word := range []string{"7", "n", "t", "v", "!", "(", ")", "!v", "(v)", "()", ") v"} {
			if ahead == "7 " || strings.ContainsAny(word[:1], "!()") {
				checkFault(t, ahead+word, len(ahead), api.ErrWord)
			}
			checkFault(t, ahead+"  "+word, len(ahead)+2, api.ErrWord)
		}
		parsed(t, ahead)
		parsed(t, ahead+"  ")
		for _, word := range binaries {
			parsed(t, ahead+word+"v")
			parsed(t, ahead+" "+word+" v")
			checkFault(t, ahead+word, len(ahead+word), api.ErrEnd)
			checkFault(t, ahead+word+" ", len(ahead+word)+1, api.ErrEnd)
		}
	}
}

func TestParentheses(t *testing.T) { // P4.1, P4.3: they open and close in pairs, and are no parts
	for _, c := range []struct {
		text, want string
		size       int
	}{
		{"(v)", "v", 1}, {"((v))", "v", 1}, {" ( ( v ) ) ", "v", 1}, {"(7)", "7", 1},
		{"(v)+(1)", "(v + 1)", 3}, {"(v+1)", "(v + 1)", 3}, {"v*(1+t)", "(v * (1 + t))", 5}, {"(v*1)+t", "((v * 1) + t)", 5},
		{"-(v)", "-v", 2}, {"(-v)", "-v", 2}, {"-(-(v))", "--v", 3}, {"!(v)", "!v", 2}, {"-(v+1)", "-(v + 1)", 4},
		{"(1-(2-3))", "(1 - (2 - 3))", 5}, {"((1)-((2)-(3)))", "(1 - (2 - 3))", 5}, {"((1-2)-3)", "((1 - 2) - 3)", 5},
	} {
		checkExpr(t, c.text, c.want, c.size)
	}
	for text, at := range map[string]int{")": 0, "())": 1, "()": 1, "v)": 1, "(v))": 3, "(v)+1)": 5, "((v)))": 5, "v + )": 4, "(v+)": 3, "(v)(1)": 3, "v(1)": 1, "1(": 1, ")v(": 0} {
		checkFault(t, text, at, api.ErrWord)
	}
	for _, text := range []string{"(", "((", "(v", "((v)", "(v+1", "-(v", "(v)+(1", "(v ", "((v) + 1  "} {
		checkFault(t, text, len(text), api.ErrEnd)
	}
}

func TestDeepParentheses(t *testing.T) { // P4.1, R1: as deep as a text allows
	nested := func(open, closed int) string { return strings.Repeat("(", open) + "v" + strings.Repeat(")", closed) }
	checkExpr(t, nested(99, 99), "v", 1)
	checkExpr(t, nested(99, 99)+" ", "v", 1)
	checkFault(t, nested(99, 100), 199, api.ErrWord)
	checkFault(t, nested(100, 99), 200, api.ErrEnd)
	checkFault(t, nested(0, 199), 1, api.ErrWord)
	checkFault(t, nested(199, 0), 200, api.ErrEnd)
	checkFault(t, strings.Repeat("(", 200), 200, api.ErrEnd)
	checkFault(t, strings.Repeat("(", 199)+")", 199, api.ErrWord)
	checkFault(t, strings.Repeat(")", 200), 0, api.ErrWord)
	checkExpr(t, strings.Repeat("-(", 63)+"v"+strings.Repeat(")", 63), strings.Repeat("-", 63)+"v", 64)
	left := strings.Repeat("(", 31) + "v" + strings.Repeat("+1)", 31)
	checkExpr(t, left, strings.Repeat("(", 31)+"v"+strings.Repeat(" + 1)", 31), 63)
	checkValue(t, left, 0, 0, 5, 36)
	right := strings.Repeat("(1-", 31) + "v" + strings.Repeat(")", 31)
	checkExpr(t, right, strings.Repeat("(1 - ", 31)+"v"+strings.Repeat(")", 31), 63)
	checkValue(t, right, 0, 0, 5, -4)
}

func TestBlanks(t *testing.T) { // P4.1, P4.5: before, between and after the tokens, any number of them
	for _, blanks := range []string{"", " ", "  ", "          "} {
		text := blanks + strings.Join([]string{"!", "(", "-", "v", "+", "10", ")", "<=", "t", "&&", "n"}, blanks) + blanks
		checkExpr(t, text, "((!(-v + 10) <= t) && n)", 9)
	}
	checkFault(t, "", 0, api.ErrEnd)
	for _, n := range []int{1, 2, 199, 200} {
		checkFault(t, strings.Repeat(" ", n), n, api.ErrEnd)
	}
	checkFault(t, "1 0", 2, api.ErrWord) // a blank ends a token
	checkFault(t, "v  +  ", 6, api.ErrEnd)
	checkFault(t, "   (  v   ", 10, api.ErrEnd)
	checkFault(t, "   v   )", 7, api.ErrWord)
}

func TestTheFirstErrorIsReturned(t *testing.T) { // P4.1: from left to right
	for text, at := range map[string]int{"v v #": 2, "# v v": 0, "v) (": 1, "v + ) +": 4, "(v # ": 3, "vt +": 0, "v = = ": 2, "(1234567890123456789": 1, "v \t (": 2} {
		checkFault(t, text, at, api.ErrWord)
	}
}
