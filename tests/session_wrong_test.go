package tests

import (
	"strings"
	"testing"

	"loop.example/s01311/impl"
)

// wantRefused wants a code with its place, and all else zero.
func wantRefused(t *testing.T, what string, got impl.Outcome, code, sub, pos int) {
	t.Helper()
	if want := (impl.Outcome{Code: code, Sub: sub, Pos: pos}); !equalOutcomes(got, want) {
		t.Errorf("%s: %+v, asked for %+v", what, got, want)
	}
}

const (
	rightText   = "(rule r 0 (a ?x) => (add b ?x))"
	rightScript = "(assert a 1)(run 5)(retract 1)"
)

func TestSessionWithWrongArguments(t *testing.T) {
	for _, src := range []string{"", rightText, "(", "(rule a 0 =>)", "\x00"} {
		for _, script := range []string{"", rightScript, "(", ")", "\xff"} {
			for _, how := range []int{-1, 4, 5, -4, leastNumber, mostNumber} {
				for _, room := range []int{0, 9, impl.MaxFacts, -1, impl.MaxFacts + 1} {
					wantRefused(t, "how", impl.Session([]byte(src), []byte(script), how, room, false), impl.OutArgs, 0, 0)
				}
			}
			for _, room := range []int{-1, impl.MaxFacts + 1, leastNumber, mostNumber, 4294967296} {
				for how := range 4 {
					wantRefused(t, "room", impl.Session([]byte(src), []byte(script), how, room, true), impl.OutArgs, 0, 0)
				}
			}
		}
	}
	for how := range 4 {
		for _, room := range []int{0, 1, impl.MaxFacts} {
			if got := impl.Session([]byte(rightText), []byte(rightScript), how, room, false); got.Code != impl.OutOK || len(got.Replies) != 3 {
				t.Errorf("how %d, room for %d: %+v", how, room, got)
			}
		}
	}
}

// A textFault is a text with a '@' where it is at fault.
type textFault struct {
	text string
	sub  int
}

func wantSource(t *testing.T, row textRow, script string) {
	t.Helper()
	for how := range 4 {
		wantRefused(t, row.text, impl.Session([]byte(row.text), []byte(script), how, 9, false), impl.OutSource, row.code, row.pos)
	}
}

func wantScriptFault(t *testing.T, src string, row textRow) {
	t.Helper()
	for how := range 4 {
		wantRefused(t, row.text, impl.Session([]byte(src), []byte(row.text), how, 9, true), impl.OutScript, row.code, row.pos)
	}
}

func TestSessionOfFaultyTexts(t *testing.T) {
	for _, row := range []textFault{
		{"@)", impl.ParseForm}, {"(@", impl.ParseForm}, {"@\x00", impl.ParseByte}, {"@Rule", impl.ParseWord}, {"(@assert a 1)", impl.ParseForm},
		{rightText + "@)", impl.ParseForm}, {rightText + " @x", impl.ParseForm}, {rightText + "(@", impl.ParseForm}, {rightText + "@\x80", impl.ParseByte}, {rightText + "@007", impl.ParseWord},
		{"(rule r 0 (a 1 2 3 4 5 6 @7) =>)", impl.ParseLimit}, {times(impl.MaxRules, "(rule r# 0 (a) =>)") + "@(rule x 0 (a) =>)", impl.ParseLimit},
	} {
		for _, script := range []string{"", rightScript, "(", "\x00"} {
			wantSource(t, marked(row.text, row.sub), script)
		}
	}
}

// The text ends early, wherever it is cut.
func TestSessionOfTextsThatEndEarly(t *testing.T) {
	for n := 1; n < len(rightText); n++ {
		want := modelRules([]byte(rightText[:n]))
		if want.Code == impl.ParseOK {
			t.Fatalf("%q is right", rightText[:n])
		}
		wantSource(t, textRow{rightText[:n], want.Code, want.Pos}, rightScript)
	}
	whole := 0
	for n := range rightScript {
		want := modelScript([]byte(rightScript[:n]))
		if want.Code == impl.ParseOK {
			whole++
			continue
		}
		wantScriptFault(t, rightText, textRow{rightScript[:n], want.Code, want.Pos})
	}
	if whole != 3 {
		t.Error(whole)
	}
}

func TestSessionOfRulesThatAreNotChecked(t *testing.T) {
	for _, row := range []struct {
		text string
		sub  int
		rule int
	}{
		{"(rule a 0 (b) =>)(rule a 0 (b) =>)", impl.CheckName, 1},
		{"(rule a 0 =>)", impl.CheckPos, 0},
		{"(rule a 0 (b) =>)(rule c 0 (not b) =>)", impl.CheckPos, 1},
		{"(rule a 0 (b)(b)(b)(b) =>)", impl.CheckPos, 0},
		{"(rule a 0 (b) =>)(rule b 0 (b) =>)(rule c 0 (b (> ?x)) =>)", impl.CheckVar, 2},
		{"(rule a 0 (b ?x) => (add c ?y))", impl.CheckVar, 0},
		{"(rule a 0 (b ?x) => (drop 2))", impl.CheckRef, 0},
		{"(rule a 0 (b ?x) => (mod 1000001 1))", impl.CheckRef, 0},
		{times(impl.MaxRules-1, "(rule r# 0 (a) =>)") + "(rule r3 0 (a) =>)", impl.CheckName, impl.MaxRules - 1},
	} {
		for _, script := range []string{"", rightScript, "(", "(run 1", "\x00"} {
			for how := range 4 {
				wantRefused(t, row.text, impl.Session([]byte(row.text), []byte(script), how, 9, false), impl.OutRules, row.sub, row.rule)
			}
		}
	}
}

func TestSessionOfFaultyScripts(t *testing.T) {
	for _, row := range []textFault{
		{"@)", impl.ParseForm}, {"(@", impl.ParseForm}, {"@\x7f", impl.ParseByte}, {"@Run", impl.ParseWord}, {"(@rule a 0 (b) =>)", impl.ParseForm},
		{"(run @x)", impl.ParseForm}, {"(run @9223372036854775808)", impl.ParseWord}, {"(retract @-0)", impl.ParseWord}, {"(assert @not)", impl.ParseForm}, {"(assert a @?x)", impl.ParseForm},
		{rightScript + "@)", impl.ParseForm}, {rightScript + "(@", impl.ParseForm}, {rightScript + " @run", impl.ParseForm}, {rightScript + "@\x00", impl.ParseByte},
		{"(modify 1 1 2 3 4 5 6 @7)", impl.ParseLimit}, {strings.Repeat("(run 1)", impl.MaxCmds) + "@(run 1)", impl.ParseLimit},
	} {
		for _, src := range []string{"", rightText} {
			wantScriptFault(t, src, marked(row.text, row.sub))
		}
	}
}

func TestSessionOfLongTexts(t *testing.T) {
	src := rightText + strings.Repeat(" ", impl.MaxSource-len(rightText))
	script := rightScript + strings.Repeat("\n", impl.MaxSource-len(rightScript))
	if got := impl.Session([]byte(src), []byte(script), 2, 9, false); got.Code != impl.OutOK || len(got.Replies) != 3 || showFacts(got.Facts) != "2:b 1" {
		t.Errorf("%+v", got)
	}
	wantSource(t, textRow{src + " ", impl.ParseLimit, 0}, script)
	wantSource(t, textRow{src + " ", impl.ParseLimit, 0}, script+" ")
	wantSource(t, textRow{strings.Repeat("(", 1000000), impl.ParseLimit, 0}, "")
	wantScriptFault(t, src, textRow{script + " ", impl.ParseLimit, 0})
	wantScriptFault(t, "", textRow{script + ")", impl.ParseLimit, 0})
	wantScriptFault(t, "", textRow{";" + strings.Repeat("(", impl.MaxSource), impl.ParseLimit, 0})
	wantSource(t, textRow{"(rule" + strings.Repeat("\n", impl.MaxSource-5), impl.ParseForm, impl.MaxSource}, "")
	wantScriptFault(t, rightText, textRow{"(run" + strings.Repeat("\n", impl.MaxSource-4), impl.ParseForm, impl.MaxSource})
}
