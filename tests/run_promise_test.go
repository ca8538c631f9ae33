package tests

import (
	"slices"
	"testing"

	"loop.example/s01311/impl"
)

// checkPromise11 fires the firings of a run one by one. Those that are in the
// conflict set from their firing on are not fired again, and at the end they are
// what is spent.
func checkPromise11(t *testing.T, rules []impl.Rule, s impl.Store, spent []impl.Inst, fuel int, got impl.Ran) {
	t.Helper()
	if len(got.Fired) > fuel {
		t.Fatalf("%d firings with fuel %d", len(got.Fired), fuel)
	}
	held := within(impl.Conflict(rules, s.Facts), spent)
	var last impl.Fired
	for i, f := range got.Fired {
		x := impl.Inst{Rule: f.Rule, Tags: f.Tags}
		if len(within([]impl.Inst{x}, held)) != 0 {
			t.Fatalf("%s: firing %d, %s, is fired again", impl.PrintRules(rules), i, showInst(x))
		}
		last = impl.Fire(rules, s, x)
		if last.Code != f.Code || (last.Code != impl.CodeOK || last.Halt) && i < len(got.Fired)-1 {
			t.Fatalf("firing %d, %s: code %d, asked for %+v", i, showInst(x), f.Code, last)
		}
		s = last.Store
		held = within(missing(append(held, x), last.Gone), impl.Conflict(rules, s.Facts))
	}
	conflict := impl.Conflict(rules, s.Facts)
	if !equalStores(got.Store, s) || !equalInsts(got.Spent, within(conflict, held)) {
		t.Fatalf("%s: %+v, but the firings lead to %+v and %s", impl.PrintRules(rules), got, s, showInsts(held))
	}
	stop := impl.StopFuel
	switch {
	case last.Code != impl.CodeOK:
		stop = impl.StopError
	case last.Halt:
		stop = impl.StopHalt
	case len(conflict) == len(held):
		stop = impl.StopIdle
	}
	if got.Stop != stop || stop == impl.StopFuel && len(got.Fired) != fuel {
		t.Fatalf("%s: stop %d behind %d firings, asked for %d", impl.PrintRules(rules), got.Stop, len(got.Fired), stop)
	}
}

// checkPromise12 makes two runs of one wherever the first stops with StopFuel.
func checkPromise12(t *testing.T, rules []impl.Rule, s impl.Store, spent []impl.Inst, fuel int, whole impl.Ran) {
	t.Helper()
	for f := range fuel + 1 {
		first := impl.RunRules(rules, s, spent, f)
		if first.Stop != impl.StopFuel {
			if !equalRan(first, whole) {
				t.Fatalf("%s: fuel %d stops with %+v, fuel %d with %+v", impl.PrintRules(rules), f, first, fuel, whole)
			}
			continue
		}
		second := impl.RunRules(rules, first.Store, first.Spent, fuel-f)
		both := second
		both.Fired = append(slices.Clone(first.Fired), second.Fired...)
		if !equalRan(both, whole) {
			t.Fatalf("%s over %s: %d and %d firings are\n%+v, %d are\n%+v", impl.PrintRules(rules), showFacts(s.Facts), f, fuel-f, both, fuel, whole)
		}
	}
}

// anySpent has some of the conflict set, some twice, and others.
func (d *dice) anySpent(rules []impl.Rule, s impl.Store) []impl.Inst {
	list := d.anyInsts(len(rules), d.roll(3))
	conflict := impl.Conflict(rules, s.Facts)
	for range d.roll(1 + min(4, len(conflict))) {
		list = append(list, conflict[d.roll(len(conflict))])
	}
	return list
}

// A runTally says what runs have met: stops, codes of firings, and firings of
// what was fired before in the same run.
type runTally struct {
	stops map[int]int
	codes map[int]int
	again int
}

func newRunTally() runTally { return runTally{map[int]int{}, map[int]int{}, 0} }

func (c *runTally) note(stop int, fired []impl.Firing) {
	c.stops[stop]++
	seen := map[string]bool{}
	for _, f := range fired {
		c.codes[f.Code]++
		x := showInst(impl.Inst{Rule: f.Rule, Tags: f.Tags})
		if seen[x] {
			c.again++
		}
		seen[x] = true
	}
}

func TestRunsKeepPromises11And12(t *testing.T) {
	d, met := dice(50), newRunTally()
	for range 4000 {
		rules, s, fuel := d.actingRules(1+d.roll(3)), d.smallStore(d.roll(6)), d.roll(9)
		spent := d.anySpent(rules, s)
		got := impl.RunRules(rules, s, spent, fuel)
		if want := modelRun(rules, s, spent, fuel); !equalRan(got, want) {
			t.Fatalf("%s over %s, spent %s, fuel %d: answered\n%+v, asked for\n%+v", impl.PrintRules(rules), showFacts(s.Facts), showInsts(spent), fuel, got, want)
		}
		checkPromise11(t, rules, s, spent, fuel, got)
		checkPromise12(t, rules, s, spent, fuel, got)
		met.note(got.Stop, got.Fired)
	}
	for _, stop := range []int{atIdle, atFuel, atHalt, atError} {
		if met.stops[stop] < 20 {
			t.Errorf("stop %d was met %d times", stop, met.stops[stop])
		}
	}
	for _, code := range []int{impl.CodeOK, impl.CodeDup, impl.CodeFull, impl.CodeTags, impl.CodeNone, impl.CodeZero, impl.CodeType} {
		if met.codes[code] < 3 {
			t.Errorf("code %d was met %d times", code, met.codes[code])
		}
	}
}

// barringRules bar and free each other's instantiations, within firings and
// from one to another.
func (d *dice) barringRules(t *testing.T) []impl.Rule {
	text := "(rule p " + d.pick("0", "1", "2") + " (b ?x)(a ?y) =>"
	for range 2 + d.roll(4) {
		text += " " + d.pick("(mod 1 1)", "(mod 1 2)", "(mod 1 ?y)", "(mod 2 1)", "(mod 2 ?x)", "(add b 2)", "(drop 2)")
	}
	text += ")(rule q " + d.pick("0", "1", "2") + " (c ?x)(not b " + d.pick("1", "2", "?x", "(> ?x)") + ") =>" + d.pick("", "(add b 2)", "(add a 1)") + ")"
	text += "(rule s " + d.pick("0", "1", "2") + " (c ?x)(not a " + d.pick("1", "2", "?x") + ") =>" + d.pick("", "(add a 2)", "(add b 1)") + ")"
	text += "(rule u " + d.pick("-1", "0", "1") + " (" + d.pick("a", "b") + " ?x)(not c ?x) => (drop 1))"
	return checkedRules(t, text)
}

func TestRunsThatBarAndFree(t *testing.T) {
	d, met := dice(51), newRunTally()
	for range 800 {
		rules := d.barringRules(t)
		s := storeOf(t, "c "+d.pick("1", "2")+"; b "+d.smallValue()+"; a "+d.smallValue()+"; c "+d.pick("0", "3"), 6+d.roll(3), d.roll(4) == 0)
		fuel := 6 + d.roll(8)
		got := impl.RunRules(rules, s, nil, fuel)
		if want := modelRun(rules, s, nil, fuel); !equalRan(got, want) {
			t.Fatalf("%s over %s, fuel %d: answered\n%+v, asked for\n%+v", impl.PrintRules(rules), showFacts(s.Facts), fuel, got, want)
		}
		checkPromise11(t, rules, s, nil, fuel, got)
		checkPromise12(t, rules, s, nil, fuel, got)
		met.note(got.Stop, got.Fired)
	}
	if met.again < 100 {
		t.Errorf("%d came back and were fired again: the runs say little", met.again)
	}
}
