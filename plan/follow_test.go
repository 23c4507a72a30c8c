package plan_test

import (
	"math/rand/v2"
	"strings"
	"testing"

	"watershed/api"
	"watershed/plan"
)

// checkAgain reports a plan that its text, parsed again, is not; it tells whether the text is one that Parse takes.
func checkAgain(t *testing.T, p api.Plan) bool {
	t.Helper()
	text, e := plan.Text(p)
	if e != api.OK {
		t.Fatalf("Text(%v) = %d", p, e)
	}
	if len(text) > maxPlan {
		checkFault(t, text, 0, api.ErrLong)
		return false
	}
	checkParse(t, text, p)
	checkParse(t, strings.TrimSuffix(text, "\n"), p)
	return true
}

func TestTextsAreParsedAgain(t *testing.T) { // P5.4
	checkAgain(t, api.Plan{})
	checkAgain(t, plan1())
	checkAgain(t, wide())
	taken := 0
	for seed := range uint64(10000) {
		p := someRightPlan(rand.New(rand.NewPCG(seed, 53)))
		checkText(t, p, plainText(p))
		if checkAgain(t, p) {
			taken++
		}
	}
	if taken < 9500 {
		t.Errorf("only %d texts were short enough", taken)
	}
}

func TestParsedPlansHaveNoError(t *testing.T) { // P5.4
	right := 0
	for seed := range uint64(10000) {
		p, _, e := plan.Parse(someText(seed))
		if e != api.OK {
			continue
		}
		right++
		checkCheck(t, "a parsed plan", p, 0, api.OK)
		checkAgain(t, p)
	}
	if right < 3000 {
		t.Errorf("only %d texts have no error", right)
	}
}

func TestLoosenedTextsAreTheSame(t *testing.T) { // P5.4: more blanks, and more lines that are ignored
	for seed := range uint64(5000) {
		s := rand.New(rand.NewPCG(seed, 54))
		p := someRightPlan(s)
		text := plainText(p)
		for range 3 {
			if loose := loosen(s, strings.Split(text, "\n")); len(loose) <= maxPlan {
				checkParse(t, loose, p)
			}
		}
	}
}

// planOfLength returns a plan whose text has n bytes.
func planOfLength(n int) api.Plan {
	p := wide()
	for i := range p.Flows {
		p.Flows[i].Pre = some(maxSteps)
		for k := range p.Flows[i].Pre {
			p.Flows[i].Pre[k].Text = "v +1"
		}
	}
	room := n - len(plainText(p))
	for i := range p.Flows {
		for k := range p.Flows[i].Pre {
			blanks := min(room, 190)
			p.Flows[i].Pre[k].Text = "v " + strings.Repeat(" ", blanks) + "+1"
			room -= blanks
		}
	}
	return p
}

func TestTheLongestTexts(t *testing.T) { // P5.4: texts are parsed again up to 4096 bytes
	for n := maxPlan - 3; n <= maxPlan+3; n++ {
		p := planOfLength(n)
		text, e := plan.Text(p)
		if len(text) != n || e != api.OK {
			t.Fatalf("Text: %d bytes, %d, want %d", len(text), e, n)
		}
		if checkAgain(t, p) != (n <= maxPlan) {
			t.Errorf("a text of %d bytes", n)
		}
	}
	// Without its last line feed a text of 4097 bytes is parsed, but the plan's own text has one: P5.2 and P5.3 leave no choice.
	p := planOfLength(maxPlan + 1)
	checkParse(t, strings.TrimSuffix(plainText(p), "\n"), p)
	checkFault(t, plainText(p), 0, api.ErrLong)
}
