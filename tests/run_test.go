package tests

import (
	"slices"
	"strconv"
	"strings"
	"testing"

	"loop.example/s01311/impl"
)

const (
	atIdle  = impl.StopIdle
	atFuel  = impl.StopFuel
	atHalt  = impl.StopHalt
	atError = impl.StopError
)

const (
	countUp = "(rule up 0 (n ?x)(lim (> ?x)) => (mod 1 (+ ?x 1)))"
	endless = "(rule on 0 (n ?x) => (mod 1 (+ ?x 1)))"
)

func TestRunOrdinary(t *testing.T) {
	wantRuns(t, []runRow{
		{"counts up", countUp, "n 0; lim 3", "", 10, atIdle, "0:1,2 0:3,2 0:4,2", "2:lim 3; 5:n 3", ""},
		{"no actions", "(rule p 0 (a _) =>)", "a 1; a 2; a 3", "", 10, atIdle, "0:3 0:2 0:1", "1:a 1; 2:a 2; 3:a 3", "0:1 0:2 0:3"},
		{"the greater salience first", "(rule p -1 (a) =>)(rule q 5 (a) =>)(rule s 0 (a) =>)", "a", "", 10, atIdle, "1:1 2:1 0:1", "1:a", "0:1 1:1 2:1"},
		{"the more recent first", "(rule p 0 (a)(b) =>)(rule q 0 (c) =>)", "a; c; b", "", 10, atIdle, "0:1,3 1:2", "1:a; 2:c; 3:b", "0:1,3 1:2"},
		{"what a firing adds is more recent", "(rule p 0 (a ?x) => (add b ?x))(rule q 0 (b ?x) => (add c ?x))", "a 1; a 2", "", 10, atIdle,
			"0:2 1:3 0:1 1:5", "1:a 1; 2:a 2; 3:b 2; 4:c 2; 5:b 1; 6:c 1", "0:1 0:2 1:3 1:5"},
		{"what a firing drops is not fired", "(rule p 1 (a) => (drop 1))(rule q 0 (a) => (add b))", "a; a", "", 10, atIdle, "0:2 0:1", "", ""},
		{"a rule takes away its own instantiation", "(rule p 0 (a) => (drop 1)(add a)(halt))", "a", "", 10, atHalt, "0:1", "2:a", ""},
		{"a rule bars its own instantiation", "(rule p 0 (a ?x)(not b ?x) => (add b ?x))", "a 1; a 2", "", 10, atIdle, "0:2 0:1", "1:a 1; 2:a 2; 3:b 2; 4:b 1", ""},
		{"no rules", "", "a 1", "", 10, atIdle, "", "1:a 1", ""},
		{"no facts", "(rule p 0 (a) =>)(rule q 0 (not b)(a) =>)", "", "", 10, atIdle, "", "", ""},
		{"no rules and no facts", "", "", "", 10, atIdle, "", "", ""},
		{"no match", "(rule p 0 (a 2) => (halt))", "a 1", "", 10, atIdle, "", "1:a 1", ""},
	}, 9, false)
}

func TestRunStops(t *testing.T) {
	wantRuns(t, []runRow{
		{"no fuel, something left", countUp, "n 0; lim 3", "", 0, atFuel, "", "1:n 0; 2:lim 3", ""},
		{"no fuel, nothing left", countUp, "n 3; lim 3", "", 0, atIdle, "", "1:n 3; 2:lim 3", ""},
		{"no fuel, all spent", countUp, "n 0; lim 3", "0:1,2", 0, atIdle, "", "1:n 0; 2:lim 3", "0:1,2"},
		{"no fuel, no rules", "", "n 0", "", 0, atIdle, "", "1:n 0", ""},
		{"fuel for all but one", countUp, "n 0; lim 3", "", 2, atFuel, "0:1,2 0:3,2", "2:lim 3; 4:n 2", ""},
		{"nothing left just when the fuel is used up", countUp, "n 0; lim 3", "", 3, atIdle, "0:1,2 0:3,2 0:4,2", "2:lim 3; 5:n 3", ""},
		{"a halt just when the fuel is used up, something left", "(rule p 0 (a) => (halt))", "a; a", "", 1, atHalt, "0:2", "1:a; 2:a", "0:2"},
		{"a halt just when the fuel is used up, nothing left", "(rule p 0 (a) => (halt))", "a", "", 1, atHalt, "0:1", "1:a", "0:1"},
		{"a halt with fuel left", "(rule p 0 (a ?x) => (add b ?x)(halt)(drop 1))", "a 1; a 2", "", 9, atHalt, "0:2", "1:a 1; 2:a 2; 3:b 2", "0:2"},
		{"a halt behind other firings", "(rule p 5 (a ?x) =>)(rule q 0 (a ?x) => (halt))", "a 1; a 2", "", 9, atHalt, "0:2 0:1 1:2", "1:a 1; 2:a 2", "0:1 0:2 1:2"},
		{"a fault just when the fuel is used up, something left", "(rule p 0 (a) => (add b (/ 1 0)))", "a; a", "", 1, atError, "0:2!7", "1:a; 2:a", "0:2"},
		{"a fault just when the fuel is used up, nothing left", "(rule p 0 (a) => (add b (/ 1 0)))", "a", "", 1, atError, "0:1!7", "1:a", "0:1"},
		{"a fault with fuel left", "(rule p 0 (a) => (add b (/ 1 0)))", "a; a", "", 9, atError, "0:2!7", "1:a; 2:a", "0:2"},
		{"a fault in a later action", "(rule p 0 (a) => (add b)(add c)(drop 1)(add b (/ 1 0))(add e)(halt))", "a; a", "", 9, atError, "0:2!7", "1:a; 3:b; 4:c", ""},
		{"a fault ahead of a halt", "(rule p 0 (a) => (add b (/ 1 0))(halt))", "a", "", 9, atError, "0:1!7", "1:a", "0:1"},
		{"a halt ahead of a fault", "(rule p 0 (a) => (halt)(add b (/ 1 0)))", "a", "", 9, atHalt, "0:1", "1:a", "0:1"},
		{"a fault behind other firings", "(rule p 0 (a ?x) => (add b (/ 6 ?x)))", "a 0; a 2; a 3", "", 9, atError, "0:3 0:2 0:1!7", "1:a 0; 2:a 2; 3:a 3; 4:b 2; 5:b 3", "0:1 0:2 0:3"},
		{"what failed and took itself away is not spent", "(rule p 0 (a) => (drop 1)(drop 1))", "a", "", 9, atError, "0:1!5", "", ""},
	}, 9, false)
}

func TestRunWithMaxFuel(t *testing.T) {
	for _, row := range []struct {
		lim   int
		fuel  int
		stop  int
		fired int
	}{
		{impl.MaxFuel - 1, impl.MaxFuel, atIdle, impl.MaxFuel - 1},
		{impl.MaxFuel, impl.MaxFuel, atIdle, impl.MaxFuel},
		{impl.MaxFuel + 1, impl.MaxFuel, atFuel, impl.MaxFuel},
		{impl.MaxFuel, impl.MaxFuel - 1, atFuel, impl.MaxFuel - 1},
	} {
		s := storeOf(t, "n 0; lim "+strconv.Itoa(row.lim), 2, true)
		got := impl.RunRules(checkedRules(t, countUp), s, nil, row.fuel)
		if got.Stop != row.stop || len(got.Fired) != row.fired || got.Store.Next != 3+row.fired {
			t.Errorf("%+v: stop %d, %d firings, next tag %d", row, got.Stop, len(got.Fired), got.Store.Next)
		}
	}
	got := impl.RunRules(checkedRules(t, endless), storeOf(t, "n 0", 1, false), nil, impl.MaxFuel)
	if got.Stop != atFuel || len(got.Fired) != impl.MaxFuel || showFacts(got.Store.Facts) != "301:n 300" || len(got.Spent) != 0 {
		t.Errorf("stop %d, %d firings, %s", got.Stop, len(got.Fired), showFacts(got.Store.Facts))
	}
}

func TestRunWithSpent(t *testing.T) {
	const two = "(rule p 0 (a ?x) =>)(rule q 0 (a ?x)(a (> ?x)) =>)"
	const all = "1:a 1; 2:a 2; 3:b 1"
	wantRuns(t, []runRow{
		{"some are spent", two, "a 1; a 2; b 1", "0:2", 9, atIdle, "1:1,2 0:1", all, "0:1 0:2 1:1,2"},
		{"all are spent", two, "a 1; a 2; b 1", "1:1,2 0:2 0:1", 9, atIdle, "", all, "0:1 0:2 1:1,2"},
		{"the same entry twice", two, "a 1; a 2; b 1", "0:2 1:1,2 0:2", 9, atIdle, "0:1", all, "0:1 0:2 1:1,2"},
		{"the same entry twice, no fuel", two, "a 1; a 2; b 1", "0:2 0:2", 0, atFuel, "", all, "0:2"},
		{"rules that are not there", two, "a 1; a 2; b 1", "2:1 -1:1 9223372036854775807:1 -9223372036854775808:2", 0, atFuel, "", all, ""},
		{"too few and too many tags", two, "a 1; a 2; b 1", "0: 0:1,1 0:1,2,1 0:1,2,1,2 1: 1:1 1:1,2,1 1:1,2,1,2,1", 9, atIdle, "1:1,2 0:2 0:1", all, "0:1 0:2 1:1,2"},
		{"tags of no fact", two, "a 1; a 2; b 1", "0:0 0:-1 0:4 0:1000001 1:1,0 1:0,2 1:1,9", 9, atIdle, "1:1,2 0:2 0:1", all, "0:1 0:2 1:1,2"},
		{"tags with zeros behind", two, "a 1; a 2; b 1", "0:1,0 0:2,0,0 1:1,2,0", 9, atIdle, "1:1,2 0:2 0:1", all, "0:1 0:2 1:1,2"},
		{"facts that do not match", two, "a 1; a 2; b 1", "0:3 1:2,1 1:1,1", 9, atIdle, "1:1,2 0:2 0:1", all, "0:1 0:2 1:1,2"},
		{"spent, and its fact goes", "(rule p 0 (a) =>)(rule q 0 (b)(a) => (drop 2))", "a; b", "0:1", 9, atIdle, "1:2,1", "2:b", ""},
		{"spent, barred and freed", "(rule p 0 (a)(not b) =>)(rule q -1 (go)(a) => (add b)(drop 1))(rule s -2 (b) => (drop 1))", "a; go", "0:1", 9, atIdle, "1:2,1 2:3 0:1", "1:a", "0:1"},
		{"not in the conflict set at first, but later", "(rule p 0 (a)(not b) =>)(rule s 0 (b) => (drop 1))", "a; b", "0:1", 9, atIdle, "1:2 0:1", "1:a", "0:1"},
		{"the tags that come are spent in vain", countUp, "n 0; lim 2", "0:3,2 0:4,2", 9, atIdle, "0:1,2 0:3,2", "2:lim 2; 4:n 2", ""},
	}, 9, false)
}

// What goes is not spent any more when it comes back.
func TestRunRefraction(t *testing.T) {
	const bars = "(rule p 5 (a ?x)(not b 2) =>)"
	wantRuns(t, []runRow{
		{"goes and comes back within one firing", bars + "(rule q 0 (go)(b 1) => (mod 2 2)(mod 2 1)(drop 1))", "a 1; go; b 1", "", 9, atIdle, "0:1 1:2,3 0:1", "1:a 1; 5:b 1", "0:1"},
		{"goes within one firing, which then has a fault", bars + "(rule q 0 (go)(b 1) => (mod 2 2)(mod 2 1)(drop 1)(drop 1))", "a 1; go; b 1", "", 9, atError, "0:1 1:2,3!5", "1:a 1; 5:b 1", ""},
		{"goes within one firing, which then halts", bars + "(rule q 0 (go)(b 1) => (mod 2 2)(mod 2 1)(halt))", "a 1; go; b 1", "", 9, atHalt, "0:1 1:2,3", "1:a 1; 2:go; 5:b 1", ""},
		{"goes by one firing and comes back by another", bars + "(rule q 0 (go) => (add b 2)(drop 1))(rule s -5 (b 2) => (drop 1))", "a 1; go", "", 9, atIdle, "0:1 1:2 2:3 0:1", "1:a 1", "0:1"},
		{"goes by its own firing and comes back by another", "(rule p 5 (a)(not b) => (add b))(rule q 0 (b) => (drop 1))", "a", "", 5, atFuel, "0:1 1:2 0:1 1:3 0:1", "1:a; 4:b", ""},
		{"stays barred by another fact", bars + "(rule q 0 (go)(b 1) => (add b 2)(mod 2 2)(mod 2 1)(drop 1))", "a 1; go; b 1", "", 9, atIdle, "0:1 1:2,3", "1:a 1; 4:b 2; 6:b 1", ""},
		{"a mod that bars before and behind is no coming back", bars + "(rule q 0 (go)(b 2) => (mod 2 2)(drop 1))", "a 1; go; b 2", "", 9, atIdle, "1:2,3", "1:a 1; 4:b 2", ""},
		{"a fact alike that is added is another", "(rule p 5 (a) => (add c))(rule q 0 (go)(a) => (drop 2)(add a)(drop 1))", "a; go", "", 9, atIdle, "0:1 1:2,1 0:4", "3:c; 4:a; 5:c", "0:4"},
		{"a mod to the same slots is another", "(rule p 5 (a ?x) =>)(rule q 0 (go)(a ?x) => (mod 2 ?x)(drop 1))", "a 1; go", "", 9, atIdle, "0:1 1:2,1 0:3", "3:a 1", "0:3"},
		{"one that stays is not fired again", "(rule p 5 (a) =>)(rule q 0 (n ?x) => (mod 1 (+ ?x 1)))", "a; n 0", "", 4, atFuel, "0:1 1:2 1:3 1:4", "1:a; 5:n 3", "0:1"},
	}, 9, false)
}

func TestRunInFullStores(t *testing.T) {
	wantRuns(t, []runRow{
		{"an add too many", "(rule p 0 (a ?x) => (add b ?x))", "a 1; a 2", "", 9, atError, "0:2 0:1!3", "1:a 1; 2:a 2; 3:b 2", "0:1 0:2"},
		{"room for a mod", endless, "n 1; a; a", "", 2, atFuel, "0:1 0:4", "2:a; 3:a; 5:n 3", ""},
	}, 3, false)
	wantRuns(t, []runRow{
		{"a fact alike is added", "(rule p 0 (a ?x) => (add b)(add c ?x))", "a 1; a 2", "", 9, atIdle, "0:2 0:1", "1:a 1; 2:a 2; 3:b; 4:c 2; 5:c 1", "0:1 0:2"},
		{"a fact alike by a mod", "(rule p 0 (a 2) => (add c)(mod 1 1)(add b))", "a 1; a 2", "", 9, atError, "0:2!2", "1:a 1; 2:a 2; 3:c", "0:2"},
	}, 9, true)
	wantRuns(t, []runRow{
		{"no room at all", "(rule p 0 (a) =>)", "", "", 9, atIdle, "", "", ""},
	}, 0, false)
}

func TestRunWithoutTagsToGive(t *testing.T) {
	for _, row := range []struct {
		left  int
		fired string
		facts string
	}{
		{0, "0:1!4", "1:n 0"},
		{1, "0:1 0:1000000!4", "1000000:n 1"},
		{2, "0:1 0:999999 0:1000000!4", "1000000:n 2"},
	} {
		s := storeOf(t, "n 0", 5, false)
		s.Next = impl.MaxTag + 1 - row.left
		got := impl.RunRules(checkedRules(t, endless), s, nil, 9)
		if got.Stop != atError || showFirings(got.Fired) != row.fired || showFacts(got.Store.Facts) != row.facts || got.Store.Next != impl.MaxTag+1 || len(got.Spent) != 1 {
			t.Errorf("%d tags left: %+v", row.left, got)
		}
		if want := modelRun(checkedRules(t, endless), s, nil, 9); !equalRan(got, want) {
			t.Errorf("%d tags left: the model has %+v, answered %+v", row.left, want, got)
		}
	}
}

// Promise 15: the codes of arithmetic stop the run, and what was done stays.
func TestRunStopsAtArithmetic(t *testing.T) {
	for _, row := range []struct {
		expr string
		code int
	}{
		{"(+ ?x 9223372036854775807)", impl.CodeOver}, {"(- (- 0 ?x) 9223372036854775807)", impl.CodeOK}, {"(- (- -1 ?x) 9223372036854775807)", impl.CodeOver},
		{"(* ?x 9223372036854775807)", impl.CodeOK}, {"(* (+ ?x ?x) 9223372036854775807)", impl.CodeOver}, {"(/ -9223372036854775808 (- 0 ?x))", impl.CodeOver}, {"(% -9223372036854775808 (- 0 ?x))", impl.CodeOK},
		{"(/ ?x 0)", impl.CodeZero}, {"(% ?x (- ?x 1))", impl.CodeZero}, {"(/ 0 ?x)", impl.CodeOK},
		{"(+ ?x red)", impl.CodeType}, {"(* ?s 0)", impl.CodeType}, {"(% 1 ?s)", impl.CodeType}, {"?s", impl.CodeOK}, {"red", impl.CodeOK},
		{"(+ (/ 1 0) ?s)", impl.CodeZero}, {"(+ (+ ?s 1) (/ 1 0))", impl.CodeType}, {"(+ 1 (* 2 (- 3 ?s)))", impl.CodeType},
	} {
		for _, act := range []string{"(add out # 1)", "(mod 1 #)", "(add out 1 #)"} {
			rules := checkedRules(t, "(rule first 2 (a ?x) => (add done ?x))(rule p 1 (a ?x)(s ?s) => (add kept ?s)(drop 2)"+strings.ReplaceAll(act, "#", row.expr)+")(rule last 0 (a _) => (add never))")
			s := storeOf(t, "a 1; s red", 9, false)
			got := impl.RunRules(rules, s, nil, 2)
			fired, facts, stop := "0:1 1:1,2", "1:a 1; 3:done 1; 4:kept red", atFuel
			if row.code != impl.CodeOK {
				fired, stop = fired+"!"+strconv.Itoa(row.code), atError
			}
			if got.Stop != stop || showFirings(got.Fired) != fired || row.code != impl.CodeOK && showFacts(got.Store.Facts) != facts {
				t.Errorf("%s of %s: %+v", act, row.expr, got)
			}
			if want := modelRun(rules, s, nil, 2); !equalRan(got, want) {
				t.Errorf("%s of %s: the model has %+v, answered %+v", act, row.expr, want, got)
			}
		}
	}
}

// manySpent are the first n instantiations of three patterns over 11 facts.
func manySpent(t *testing.T, n int) ([]impl.Rule, impl.Store, []impl.Inst) {
	t.Helper()
	rules := checkedRules(t, "(rule p 0 (a _)(a _)(a _) =>)")
	s := impl.Store{Facts: manyFacts(11), Next: 12, Cap: 11}
	conflict := impl.Conflict(rules, s.Facts)
	if len(conflict) != 1331 {
		t.Fatal(len(conflict))
	}
	return rules, s, conflict[:n]
}

func TestRunWithMaxAgendaSpent(t *testing.T) {
	rules, s, spent := manySpent(t, impl.MaxAgenda)
	left := missing(impl.Conflict(rules, s.Facts), spent)
	got := impl.RunRules(rules, s, spent, impl.MaxFuel)
	if got.Stop != atFuel || len(got.Fired) != impl.MaxFuel || len(got.Spent) != impl.MaxAgenda+impl.MaxFuel {
		t.Fatal(got.Stop, len(got.Fired), len(got.Spent))
	}
	slices.SortFunc(left, func(a, b impl.Inst) int {
		if modelAhead(rules, a, b) {
			return -1
		}
		return 1
	})
	for i, f := range got.Fired {
		if !slices.Equal(f.Tags, left[i].Tags) {
			t.Fatalf("firing %d: %v, asked for %v", i, f.Tags, left[i].Tags)
		}
	}
	// The same entry over and over counts as often as it stands there.
	same := make([]impl.Inst, impl.MaxAgenda)
	for i := range same {
		same[i] = instOf(t, "0:11,11,11")
	}
	if got := impl.RunRules(rules, s, same, 1); got.Stop != atFuel || showFirings(got.Fired) != "0:10,11,11" || showInsts(got.Spent) != "0:10,11,11 0:11,11,11" {
		t.Errorf("%+v", got)
	}
	for _, list := range [][]impl.Inst{append(same, same[0]), append(spent, spent[0]), make([]impl.Inst, impl.MaxAgenda+1), make([]impl.Inst, 100000)} {
		if got := impl.RunRules(rules, s, list, 1); !equalRan(got, impl.Ran{}) {
			t.Errorf("%d spent: %+v", len(list), got)
		}
	}
	if got := impl.RunRules(rules, s, make([]impl.Inst, impl.MaxAgenda), 1); got.Stop != atFuel || len(got.Fired) != 1 {
		t.Errorf("entries that are none: %+v", got)
	}
}

// The conflict set may be longer than an agenda.
func TestRunOverLongConflictSets(t *testing.T) {
	rules := checkedRules(t, "(rule p 0 (a _)(a _)(a _) => (add b))(rule q -1 (a _)(a _)(a ?x)(not b) => (halt))(rule s 1 (b) => (drop 1))")
	s := impl.Store{Facts: manyFacts(12), Next: 13, Cap: 13}
	got := impl.RunRules(rules, s, nil, impl.MaxFuel)
	if got.Stop != atFuel || len(got.Fired) != impl.MaxFuel || len(got.Spent) != impl.MaxFuel/2 || len(got.Store.Facts) != 12 {
		t.Fatal(got.Stop, len(got.Fired), len(got.Spent), len(got.Store.Facts))
	}
	if first := showFirings(got.Fired[:8]); first != "0:12,12,12 2:13 0:11,12,12 2:14 0:12,11,12 2:15 0:12,12,11 2:16" {
		t.Error(first)
	}
	// As many as a rule can have.
	full := impl.Store{Facts: manyFacts(impl.MaxFacts), Next: impl.MaxFacts + 1, Cap: impl.MaxFacts}
	got = impl.RunRules(rules[1:], full, instsOf(t, "0:40,40,40 0:39,40,40"), impl.MaxFuel)
	if got.Stop != atHalt || showFirings(got.Fired) != "0:40,39,40" || showInsts(got.Spent) != "0:39,40,40 0:40,39,40 0:40,40,40" {
		t.Errorf("%+v", got.Fired)
	}
}
