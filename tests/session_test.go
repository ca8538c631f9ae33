package tests

import (
	"strconv"
	"strings"
	"testing"

	"loop.example/s01311/impl"
)

const passive = "(rule p 0 (a ?x) =>)"

func TestSessionOrdinary(t *testing.T) {
	wantSessions(t, []sessionRow{
		{"no rules, no commands", "", "", "", "", 1},
		{"no commands", passive, " ; nothing\n", "", "", 1},
		{"no rules", "", "(assert a 1)(run 5)(retract 1)", "a0:1 run1!0[] r0:1", "", 2},
		{"changes alone", passive, "(assert a 1)(assert b x 2)(modify 1 5)(retract 2)(assert c)", "a0:1 a0:2 m0:3 r0:2 a0:4", "3:a 5; 4:c", 5},
		{"a run", passive, "(assert a 1)(assert a 2)(run 5)", "a0:1 a0:2 run1!0[0:2 0:1]", "1:a 1; 2:a 2", 3},
		{"a run that changes facts", countUp, "(assert n 0)(assert lim 2)(run 9)", "a0:1 a0:2 run1!0[0:1,2 0:3,2]", "2:lim 2; 4:n 2", 5},
		{"changes between runs", countUp, "(assert n 0)(assert lim 1)(run 9)(modify 2 2)(run 9)(retract 4)(run 9)", "a0:1 a0:2 run1!0[0:1,2] m0:4 run1!0[0:3,4] r0:4 run1!0[]", "5:n 2", 6},
	}, 9, false)
}

func TestSessionOfMaxCmds(t *testing.T) {
	script := times(impl.MaxCmds/4, "(assert n #)(retract #)(modify 1 #)(run 2)")
	for how, got := range sessions(t, endless, script, 3, false) {
		if len(got.Replies) != impl.MaxCmds || len(got.Facts) != 3 {
			t.Errorf("how %d: %d replies, %s", how, len(got.Replies), showFacts(got.Facts))
		}
	}
}

// A run goes on where the one ahead of it stopped.
func TestSessionRunBehindRun(t *testing.T) {
	const three = "(assert a 1)(assert a 2)(assert a 3)"
	const came = "a0:1 a0:2 a0:3 "
	const all = "1:a 1; 2:a 2; 3:a 3"
	wantSessions(t, []sessionRow{
		{"behind no fuel", passive, three + "(run 0)(run 9)", came + "run2!0[] run1!0[0:3 0:2 0:1]", all, 4},
		{"behind a run by fuel", passive, three + "(run 2)(run 1)(run 1)", came + "run2!0[0:3 0:2] run1!0[0:1] run1!0[]", all, 4},
		{"behind nothing left", passive, three + "(run 9)(run 9)(run 0)", came + "run1!0[0:3 0:2 0:1] run1!0[] run1!0[]", all, 4},
		{"behind nothing left just when the fuel is used up", passive, three + "(run 3)(run 1)", came + "run1!0[0:3 0:2 0:1] run1!0[]", all, 4},
		{"behind a halt", "(rule p 0 (a ?x) => (halt))", three + "(run 9)(run 9)(run 1)(run 9)", came + "run3!0[0:3] run3!0[0:2] run3!0[0:1] run1!0[]", all, 4},
		{"behind a fault", "(rule p 0 (a ?x) => (add b (/ 6 (- ?x 2))))", three + "(run 9)(run 9)(run 9)", came + "run4!7[0:3 0:2!7] run1!0[0:1] run1!0[]", all + "; 4:b 6; 5:b -6", 6},
		{"behind a fault in the last firing", "(rule p 0 (a 1) => (add b)(drop 1)(drop 1))", three + "(run 1)(run 1)", came + "run4!5[0:1!5] run1!0[]", "2:a 2; 3:a 3; 4:b", 5},
		{"behind a run that was refused", passive, three + "(run 301)(run 2)(run -1)(run 9)", came + "run!1 run2!0[0:3 0:2] run!1 run1!0[0:1]", all, 4},
		{"a fact between", passive, three + "(run 9)(assert a 4)(run 9)", came + "run1!0[0:3 0:2 0:1] a0:4 run1!0[0:4]", all + "; 4:a 4", 5},
		{"the code is that of the last firing", "(rule p 1 (a 3) => (halt))(rule q 0 (a ?x) => (mod 1 (/ ?x 0)))", three + "(run 1)(run 9)(run 0)", came + "run3!0[0:3] run4!7[1:3!7] run2!0[]", all, 4},
	}, 9, false)
}

// Behind a change, what has left the conflict set is not spent any more.
func TestSessionRefraction(t *testing.T) {
	const bars = "(rule p 0 (a ?x)(not b) =>)"
	const begin, begun = "(assert a 1)(run 9)", "a0:1 run1!0[0:1] "
	wantSessions(t, []sessionRow{
		{"stays spent", bars, begin + "(assert c)(retract 2)(run 9)", begun + "a0:2 r0:2 run1!0[]", "1:a 1", 3},
		{"goes by a change and comes back by another", bars, begin + "(assert b)(retract 2)(run 9)", begun + "a0:2 r0:2 run1!0[0:1]", "1:a 1", 3},
		{"goes by a change and comes back by a modify", bars, begin + "(assert b)(modify 2 7)(run 9)", begun + "a0:2 m0:3 run1!0[0:1]", "1:a 1; 3:b 7", 4},
		{"goes by a modify and comes back by a modify", bars, begin + "(assert b 7)(modify 2)(modify 3 7)(run 9)", begun + "a0:2 m0:3 m0:4 run1!0[0:1]", "1:a 1; 4:b 7", 5},
		{"goes, and a run tells that it is gone", bars, begin + "(assert b)(run 9)(retract 2)(run 9)", begun + "a0:2 run1!0[] r0:2 run1!0[0:1]", "1:a 1", 3},
		{"goes by a change and comes back by a firing", bars + "(rule q -5 (b)(go) => (drop 1))", begin + "(assert b)(assert go)(run 9)", begun + "a0:2 a0:3 run1!0[1:2,3 0:1]", "1:a 1; 3:go", 4},
		{"goes by a firing and comes back by a change", bars + "(rule q -5 (go) => (add b))", begin + "(assert go)(run 9)(retract 3)(run 9)", begun + "a0:2 run1!0[1:2] r0:3 run1!0[0:1]", "1:a 1; 2:go", 4},
		{"a change that is refused does not disturb it", bars, begin + "(retract 9)(modify 9)(retract 0)(run 9)", begun + "r5:0 m5:0 r5:0 run1!0[]", "1:a 1", 2},
		{"its fact is another by a modify", bars, begin + "(modify 1 1)(run 9)", begun + "m0:2 run1!0[0:2]", "2:a 1", 3},
		{"its fact goes", bars, begin + "(retract 1)(run 9)", begun + "r0:1 run1!0[]", "", 2},
		{"another fact of the same kind", bars, begin + "(retract 1)(assert a 1)(run 9)", begun + "r0:1 a0:2 run1!0[0:2]", "2:a 1", 3},
		{"what failed stays spent until it goes", "(rule p 0 (a ?x)(not b) => (add c (/ 1 0)))", "(assert a 1)(run 9)(run 9)(assert b)(retract 2)(run 9)", "a0:1 run4!7[0:1!7] run1!0[] a0:2 r0:2 run4!7[0:1!7]", "1:a 1", 3},
		{"what halted stays spent until it goes", "(rule p 0 (a ?x)(not b) => (halt))", "(assert a 1)(run 9)(run 9)(assert b)(retract 2)(run 9)", "a0:1 run3!0[0:1] run1!0[] a0:2 r0:2 run3!0[0:1]", "1:a 1", 3},
	}, 9, false)
}

// Numbers that are no tags, and those that would be if bits were lost.
func TestSessionTags(t *testing.T) {
	for _, n := range []string{
		"0", "2", "999999", "1000000", "1000001", "-1", "-2", "2147483647", "2147483648", "2147483649", "-2147483647", "-2147483648", "-4294967295",
		"4294967295", "4294967296", "4294967297", "65537", "9223372036854775807", "-9223372036854775808", "-9223372036854775807",
	} {
		wantSessions(t, []sessionRow{
			{"retract " + n, passive, "(assert a 1)(retract " + n + ")(run 9)(retract " + n + ")", "a0:1 r5:0 run1!0[0:1] r5:0", "1:a 1", 2},
			{"modify " + n, passive, "(assert a 1)(modify " + n + " 7)(run 9)(modify " + n + ")", "a0:1 m5:0 run1!0[0:1] m5:0", "1:a 1", 2},
			{"over an empty store: " + n, "", "(retract " + n + ")(modify " + n + " 1 2 3)", "r5:0 m5:0", "", 1},
		}, 9, true)
	}
	wantSessions(t, []sessionRow{
		{"a tag that is gone", "", "(assert a)(retract 1)(retract 1)(modify 1)(assert a)(modify 2 5)(retract 2)", "a0:1 r0:1 r5:0 m5:0 a0:2 m0:3 r5:0", "3:a 5", 4},
	}, 9, false)
}

func TestSessionFuel(t *testing.T) {
	for _, n := range []string{"-1", "301", "302", "-300", "4294967296", "4294967301", "-9223372036854775808", "9223372036854775807", "2147483648"} {
		wantSessions(t, []sessionRow{
			{"run " + n, passive, "(assert a 1)(run " + n + ")(run 9)(run " + n + ")", "a0:1 run!1 run1!0[0:1] run!1", "1:a 1", 2},
			{"run " + n + " of nothing", "", "(run " + n + ")", "run!1", "", 1},
		}, 9, false)
	}
	for how := range 4 {
		got := impl.Session([]byte(endless), []byte("(assert n 0)(run 300)(run 0)(run 1)(run 300)"), how, 1, true)
		want := []int{0, impl.MaxFuel, 0, 1, impl.MaxFuel}
		if len(got.Replies) != len(want) || showFacts(got.Facts) != "602:n 601" || got.Next != 603 {
			t.Fatalf("how %d: %d replies, %s", how, len(got.Replies), showFacts(got.Facts))
		}
		for i, n := range want[1:] {
			if r := got.Replies[i+1]; r.Stop != atFuel || len(r.Fired) != n || r.Code != impl.CodeOK || r.Tag != 0 {
				t.Errorf("how %d, reply %d: stop %d, %d firings", how, i+1, r.Stop, len(r.Fired))
			}
		}
	}
}

func TestSessionInFullStores(t *testing.T) {
	wantSessions(t, []sessionRow{
		{"no room", passive, "(assert a 1)(run 3)(retract 1)(modify 1)", "a3:0 run1!0[] r5:0 m5:0", "", 1},
	}, 0, false)
	wantSessions(t, []sessionRow{
		{"an assert too many", passive, "(assert a 1)(assert a 2)(assert a 3)(modify 2 5)(retract 1)(assert a 4)", "a0:1 a0:2 a3:0 m0:3 r0:1 a0:4", "3:a 5; 4:a 4", 5},
		{"a firing that adds too much", "(rule p 0 (a ?x) => (add b ?x)(add c))", "(assert a 1)(run 9)(run 9)(retract 2)(run 9)", "a0:1 run4!3[0:1!3] run1!0[] r0:2 run1!0[]", "1:a 1", 3},
	}, 2, false)
	full := times(impl.MaxFacts, "(assert a #)")
	for _, room := range []int{impl.MaxFacts - 1, impl.MaxFacts} {
		got := impl.Session(nil, []byte(full), 0, room, false)
		if last := got.Replies[impl.MaxFacts-1]; len(got.Facts) != room || (last.Code == impl.CodeFull) != (room < impl.MaxFacts) {
			t.Errorf("room for %d: %d facts, last code %d", room, len(got.Facts), last.Code)
		}
	}
	got := impl.Session(nil, []byte(full+"(assert a)(modify 40)(run 1)"), 0, impl.MaxFacts, false)
	if text := showReplies(got.Replies[impl.MaxFacts:]); text != "a3:0 m0:41 run1!0[]" || len(got.Facts) != impl.MaxFacts {
		t.Error(text)
	}
}

func TestSessionWithSingle(t *testing.T) {
	wantSessions(t, []sessionRow{
		{"facts alike", passive, "(assert a 1)(assert a 1)(assert a 2)(modify 2 1)(modify 2 2)(retract 1)(assert a 1)", "a0:1 a2:1 a0:2 m2:1 m0:3 r0:1 a0:4", "3:a 2; 4:a 1", 5},
		{"a fact alike that a firing adds", "(rule p 0 (a ?x) => (add b)(add c ?x))", "(assert a 1)(assert a 2)(run 9)(assert b)", "a0:1 a0:2 run1!0[0:2 0:1] a2:3", "1:a 1; 2:a 2; 3:b; 4:c 2; 5:c 1", 6},
		{"a fact alike that a firing makes", "(rule p 0 (a 2) => (mod 1 1))", "(assert a 1)(assert a 2)(run 9)(run 9)", "a0:1 a0:2 run4!2[0:2!2] run1!0[]", "1:a 1; 2:a 2", 3},
	}, 9, true)
	wantSessions(t, []sessionRow{
		{"without it", passive, "(assert a 1)(assert a 1)(modify 2 1)", "a0:1 a0:2 m0:3", "1:a 1; 3:a 1", 4},
	}, 9, false)
}

// Promise 15 in a session.
func TestSessionStopsAtArithmetic(t *testing.T) {
	for _, row := range []struct {
		expr string
		code int
	}{
		{"(+ ?x 1)", impl.CodeOver}, {"(* ?x ?x)", impl.CodeOver}, {"(- (- 0 ?x) 2)", impl.CodeOver},
		{"(/ ?x 0)", impl.CodeZero}, {"(% ?x (- ?x ?x))", impl.CodeZero}, {"(+ ?x red)", impl.CodeType}, {"(/ red 0)", impl.CodeType},
	} {
		code := strconv.Itoa(row.code)
		wantSessions(t, []sessionRow{
			{row.expr, "(rule p 0 (a ?x) => (add kept 1)(add out " + row.expr + ")(add never))", "(assert a 9223372036854775807)(run 9)(run 9)(assert a 5)(retract 3)",
				"a0:1 run4!" + code + "[0:1!" + code + "] run1!0[] a0:3 r0:3", "1:a 9223372036854775807; 2:kept 1", 4},
		}, 9, false)
	}
}

// More are spent than RunRules would take, and none is fired twice.
func TestSessionWithManySpent(t *testing.T) {
	src := []byte("(rule p 0 (a _)(a _)(a _) =>)")
	script := []byte(times(11, "(assert a #)") + strings.Repeat("(run 300)", 6) + "(modify 1 7)(run 300)")
	for how := range 4 {
		got := impl.Session(src, script, how, 11, false)
		seen := map[string]bool{}
		for i, want := range []int{300, 300, 300, 300, 131, 0} {
			r := got.Replies[11+i]
			if len(r.Fired) != want || (r.Stop == atFuel) != (want == 300) {
				t.Fatalf("how %d, run %d: stop %d, %d firings", how, i, r.Stop, len(r.Fired))
			}
			for _, f := range r.Fired {
				text := showInst(impl.Inst{Rule: f.Rule, Tags: f.Tags})
				if seen[text] {
					t.Fatalf("how %d: %s is fired twice", how, text)
				}
				seen[text] = true
			}
		}
		// The new fact stands in 331 of the 1331, and those alone are fired.
		if r := got.Replies[18]; r.Stop != atFuel || len(r.Fired) != 300 || showFirings(r.Fired[:2]) != "0:12,12,12 0:11,12,12" {
			t.Errorf("how %d: %d firings", how, len(r.Fired))
		}
	}
}

func TestSessionSize(t *testing.T) {
	src := "(rule p 0 (a ?x)(not b ?x)(a (> ?x)) =>)(rule q 0 (not c)(a ?x) => (add b ?x))"
	for _, row := range []struct {
		script string
		sizes  [4]int
	}{
		// Of p the first patterns have 3, 3 and 3 matches, of q 1 and 3; by cost
		// p has ModeTreat and q ModeRete.
		{"(assert a 1)(assert a 2)(assert a 3)", [4]int{13, 6, 7, 12}},
		{"", [4]int{1, 0, 1, 0}},
		{"(assert c)", [4]int{0, 0, 0, 0}},
		{"(assert a 1)(assert a 2)(assert a 3)(retract 1)(retract 2)(retract 3)", [4]int{1, 0, 1, 0}},
		{"(assert a 1)(run 9)(modify 1 4)(retract 2)(run 0)", [4]int{4, 1, 2, 3}},
	} {
		for how, got := range sessions(t, src, row.script, 9, false) {
			if got.Size != row.sizes[how] {
				t.Errorf("%s, how %d: size %d, asked for %d", row.script, how, got.Size, row.sizes[how])
			}
		}
	}
}
