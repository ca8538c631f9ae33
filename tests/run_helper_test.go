package tests

import (
	"strconv"
	"strings"
	"testing"

	"loop.example/s01311/impl"
)

// showFirings writes firings like instantiations, with '!' and the code behind
// those that have one.
func showFirings(list []impl.Firing) string {
	var parts []string
	for _, f := range list {
		text := showInst(impl.Inst{Rule: f.Rule, Tags: f.Tags})
		if f.Code != impl.CodeOK {
			text += "!" + strconv.Itoa(f.Code)
		}
		parts = append(parts, text)
	}
	return strings.Join(parts, " ")
}

func equalRan(a, b impl.Ran) bool {
	return a.Stop == b.Stop && showFirings(a.Fired) == showFirings(b.Fired) && equalStores(a.Store, b.Store) && equalInsts(a.Spent, b.Spent)
}

// within tells what of list is in other.
func within(list, other []impl.Inst) []impl.Inst {
	return missing(list, missing(list, other))
}

// modelTop answers what nothing comes ahead of.
func modelTop(rules []impl.Rule, insts []impl.Inst) impl.Inst {
	best := insts[0]
	for _, x := range insts {
		if modelAhead(rules, x, best) {
			best = x
		}
	}
	return best
}

// modelRun is the plain system: it finds the conflict set anew at each step, and
// spent is a list.
func modelRun(rules []impl.Rule, s impl.Store, spent []impl.Inst, fuel int) impl.Ran {
	out := impl.Ran{Store: copyOf(s)}
	for out.Stop == 0 {
		conflict := modelConflict(rules, out.Store.Facts)
		spent = within(spent, conflict)
		left := missing(conflict, spent)
		if len(left) == 0 {
			out.Stop = impl.StopIdle
			break
		}
		if len(out.Fired) == fuel {
			out.Stop = impl.StopFuel
			break
		}
		x := modelTop(rules, left)
		f := modelFire(rules, out.Store, x)
		out.Store = f.Store
		out.Fired = append(out.Fired, impl.Firing{Rule: x.Rule, Tags: x.Tags, Code: f.Code})
		spent = missing(append(spent, x), f.Gone)
		if f.Code != impl.CodeOK {
			out.Stop = impl.StopError
		} else if f.Halt {
			out.Stop = impl.StopHalt
		}
	}
	out.Spent = within(modelConflict(rules, out.Store.Facts), spent)
	return out
}

// A runRow is a run; then the facts are told with their tags, and what is spent.
type runRow struct {
	what   string
	rules  string
	facts  string
	spent  string
	fuel   int
	stop   int
	fired  string
	behind string
	left   string
}

func wantRan(t *testing.T, row runRow, s impl.Store) impl.Ran {
	t.Helper()
	rules, spent := checkedRules(t, row.rules), instsOf(t, row.spent)
	got := impl.RunRules(rules, s, spent, row.fuel)
	if got.Stop != row.stop {
		t.Errorf("%s: stop %d, asked for %d", row.what, got.Stop, row.stop)
	}
	if fired := showFirings(got.Fired); fired != row.fired {
		t.Errorf("%s: fired %q, asked for %q", row.what, fired, row.fired)
	}
	if facts := showFacts(got.Store.Facts); facts != row.behind {
		t.Errorf("%s: facts %q, asked for %q", row.what, facts, row.behind)
	}
	if left := showInsts(got.Spent); left != row.left {
		t.Errorf("%s: spent %q, asked for %q", row.what, left, row.left)
	}
	if want := modelRun(rules, s, spent, row.fuel); !equalRan(got, want) {
		t.Errorf("%s: the model has %+v, answered %+v", row.what, want, got)
	}
	return got
}

func wantRuns(t *testing.T, rows []runRow, room int, single bool) {
	t.Helper()
	for _, row := range rows {
		wantRan(t, row, storeOf(t, row.facts, room, single))
	}
}
