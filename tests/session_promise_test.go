package tests

import (
	"strconv"
	"testing"

	"loop.example/s01311/impl"
)

// smallScript mostly makes facts at first, then changes them and runs.
func (d *dice) smallScript(n int) string {
	text := ""
	for i := range n {
		text += d.smallCommand(i < n/3)
	}
	return text
}

func (d *dice) smallCommand(begin bool) string {
	cls := d.pick("a", "a", "b", "c")
	slots := ""
	for range d.arity(cls) {
		slots += " " + d.smallValue()
	}
	tag := strconv.Itoa(1 + d.roll(9))
	if d.roll(15) == 0 {
		tag = d.pick("0", "-1", "1000000", "1000001", "4294967297", "9223372036854775807", "-9223372036854775808")
	}
	switch k := d.roll(10); {
	case k < 3 || begin && k < 9:
		return "(assert " + cls + slots + ")"
	case k < 5:
		return "(retract " + tag + ")"
	case k < 7:
		return "(modify " + tag + slots + ")"
	}
	return "(run " + d.pick("0", "1", "2", "3", "4", "4", "7", "-1", "301") + ")"
}

// checkSizes holds the sizes of one session, told with all ways to tell modes,
// against promise 7, and against what Follow tells of the facts.
func checkSizes(t *testing.T, rules []impl.Rule, list []impl.Outcome) {
	t.Helper()
	if list[0].Size < list[1].Size {
		t.Fatalf("%s: TREAT has %d, Rete %d", impl.PrintRules(rules), list[1].Size, list[0].Size)
	}
	for how, out := range list {
		ops := []impl.WmOp{{}}
		for _, f := range out.Facts {
			ops = append(ops, impl.WmOp{Kind: impl.CmdAssert, Cls: f.Cls, Slots: f.Slots})
		}
		steps := impl.Follow(rules, impl.Modes(rules, how), impl.MaxFacts, false, ops)
		if want := steps[len(steps)-1].Size; out.Size != want {
			t.Fatalf("%s, how %d: size %d, Follow has %d", impl.PrintRules(rules), how, out.Size, want)
		}
	}
}

// Promises 14, 6 and 7: sessions holds all outcomes against the plain system.
func TestSessionsKeepPromise14(t *testing.T) {
	d, met, codes := dice(60), newRunTally(), map[int]int{}
	for range 4000 {
		rules := d.actingRules(d.roll(4))
		list := sessions(t, string(impl.PrintRules(rules)), d.smallScript(4+d.roll(14)), d.roll(8), d.roll(3) == 0)
		checkSizes(t, rules, list)
		for _, r := range list[0].Replies {
			if r.Kind == impl.CmdRun {
				met.note(r.Stop, r.Fired)
			} else {
				codes[r.Code]++
			}
		}
	}
	for stop := range 5 {
		if met.stops[stop] < 30 {
			t.Errorf("stop %d was met %d times", stop, met.stops[stop])
		}
	}
	for _, code := range []int{impl.CodeOK, impl.CodeDup, impl.CodeFull, impl.CodeNone} {
		if codes[code] < 50 {
			t.Errorf("code %d of changes was met %d times", code, codes[code])
		}
	}
	for _, code := range []int{impl.CodeOK, impl.CodeFull, impl.CodeNone, impl.CodeZero, impl.CodeType} {
		if met.codes[code] < 10 {
			t.Errorf("code %d of firings was met %d times", code, met.codes[code])
		}
	}
}

// Sessions in which instantiations come back, by firings and by commands.
func TestSessionsThatBarAndFree(t *testing.T) {
	d, again := dice(61), 0
	for range 400 {
		rules := d.barringRules(t)
		script := "(assert c " + d.pick("1", "2") + ")(assert b " + d.smallValue() + ")(assert a " + d.smallValue() + ")"
		for range 6 + d.roll(6) {
			script += d.pick("(run 3)", "(run 1)", "(run 5)", d.smallCommand(false))
		}
		list := sessions(t, string(impl.PrintRules(rules)), script, 5+d.roll(3), d.roll(4) == 0)
		checkSizes(t, rules, list)
		met := newRunTally()
		var all []impl.Firing
		for _, r := range list[0].Replies {
			all = append(all, r.Fired...)
		}
		met.note(atIdle, all)
		again += met.again
	}
	if again < 100 {
		t.Errorf("%d came back and were fired again: the sessions say little", again)
	}
}

// The second half of promise 7, in a session.
func TestSessionSizeWhenAllIsGone(t *testing.T) {
	d := dice(62)
	for range 200 {
		rules := d.smallRules(1 + d.roll(4))
		src, script := string(impl.PrintRules(rules)), ""
		for range 6 {
			script += d.smallCommand(true)
		}
		script += "(run 3)(modify 2 1)(modify 1 x 0)(run 3)"
		empty := sessions(t, src, "", 8, false)
		for how, got := range sessions(t, src, script+times(20, "(retract #)"), 8, false) {
			if len(got.Facts) != 0 || got.Size != empty[how].Size {
				t.Fatalf("%s, how %d: size %d behind all, %d over the empty store", src, how, got.Size, empty[how].Size)
			}
		}
	}
}

// Promise 13: texts and scripts with and without faults, and bytes in no order.
func TestSessionsEndForEveryText(t *testing.T) {
	d, met := dice(63), map[string]int{}
	for range 4000 {
		src, script := d.text(d.rule, 4), d.text(d.command, 8)
		switch d.roll(5) {
		case 0:
			src = d.soup()
		case 1:
			script = d.soup()
		case 2:
			src = rightText
		}
		how, room := d.roll(4), d.roll(5)
		if d.roll(20) == 0 {
			how, room = d.roll(8)-2, d.roll(60)-10
		}
		got := impl.Session([]byte(src), []byte(script), how, room, d.roll(2) == 0)
		want := impl.Outcome{Code: got.Code, Sub: got.Sub, Pos: got.Pos}
		if got.Code != impl.OutOK && !equalOutcomes(got, want) {
			t.Fatalf("%q, %q: a code, and more: %+v", src, script, got)
		}
		if model := modelSession([]byte(src), []byte(script), how, room, false); got.Code != model.Code || got.Sub != model.Sub || got.Pos != model.Pos {
			t.Fatalf("%q, %q: %d, %d at %d, asked for %d, %d at %d", src, script, got.Code, got.Sub, got.Pos, model.Code, model.Sub, model.Pos)
		}
		met[strconv.Itoa(got.Code)+" "+strconv.Itoa(got.Sub)]++
	}
	for _, want := range []string{"0 0", "1 0", "2 1", "2 2", "2 3", "2 4", "3 2", "3 3", "3 4", "3 5", "4 1", "4 2", "4 3", "4 4"} {
		if met[want] < 5 {
			t.Errorf("%s was met %d times", want, met[want])
		}
	}
}

func (d *dice) soup() string {
	text := ""
	for range d.roll(20) {
		text += d.pick("(", ")", "(", ")", " ", "rule", "a", " 0 ", "=>", "run", " ?x", "assert", "(run 1)", "(assert a 1)", "(rule a 0 (b ?x) => ", ";\n", string([]byte{byte(d.roll(256))}))
	}
	return text
}
