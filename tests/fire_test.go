package tests

import (
	"testing"

	"loop.example/s01311/impl"
)

// A fireRow is a firing of the first rule; then the facts are told with their
// tags, and what is Gone.
type fireRow struct {
	what   string
	rules  string
	facts  string
	inst   string
	code   int
	at     int
	behind string
	gone   string
}

func wantFired(t *testing.T, row fireRow, s impl.Store) impl.Fired {
	t.Helper()
	rules := checkedRules(t, row.rules)
	got := impl.Fire(rules, s, instOf(t, row.inst))
	if got.Code != row.code || got.At != row.at {
		t.Errorf("%s: code %d at %d, asked for %d at %d", row.what, got.Code, got.At, row.code, row.at)
	}
	if facts := showFacts(got.Store.Facts); facts != row.behind {
		t.Errorf("%s: facts %q, asked for %q", row.what, facts, row.behind)
	}
	if gone := showInsts(got.Gone); gone != row.gone {
		t.Errorf("%s: gone %q, asked for %q", row.what, gone, row.gone)
	}
	if got.Store.Cap != s.Cap || got.Store.Single != s.Single || !impl.StoreValid(got.Store) {
		t.Errorf("%s: %+v behind %+v", row.what, got.Store, s)
	}
	if want := modelFire(rules, s, instOf(t, row.inst)); !equalFired(got, want) {
		t.Errorf("%s: the model has %+v, answered %+v", row.what, want, got)
	}
	return got
}

func wantRows(t *testing.T, rows []fireRow, room int, single bool) {
	t.Helper()
	for _, row := range rows {
		wantFired(t, row, storeOf(t, row.facts, room, single))
	}
}

func TestFireActions(t *testing.T) {
	wantRows(t, []fireRow{
		{"no action", "(rule p 0 (a _) =>)", "a 1", "0:1", 0, 0, "1:a 1", ""},
		{"add", "(rule p 0 (a ?x) => (add b ?x x 7))", "a 1", "0:1", 0, 0, "1:a 1; 2:b 1 x 7", ""},
		{"add without slots", "(rule p 0 (a ?x) => (add b))", "a 1", "0:1", 0, 0, "1:a 1; 2:b", ""},
		{"add with all slots", "(rule p 0 (a ?x) => (add b 1 2 3 4 5 ?x))", "a x", "0:1", 0, 0, "1:a x; 2:b 1 2 3 4 5 x", ""},
		{"add of a fact that is there", "(rule p 0 (a ?x) => (add a ?x))", "a 1", "0:1", 0, 0, "1:a 1; 2:a 1", ""},
		{"drop", "(rule p 0 (a ?x) => (drop 1))", "a 1; a 2", "0:1", 0, 0, "2:a 2", "0:1"},
		{"drop of the second", "(rule p 0 (a ?x)(b ?x) => (drop 2))", "a 1; b 1; b 1", "0:1,3", 0, 0, "1:a 1; 2:b 1", "0:1,3"},
		{"drop of the third", "(rule p 0 (a)(b)(c) => (drop 3))", "c; b; a", "0:3,2,1", 0, 0, "2:b; 3:a", "0:3,2,1"},
		{"K counts positive patterns", "(rule p 0 (not c)(a)(not c)(b) => (drop 2))", "a; b", "0:1,2", 0, 0, "1:a", "0:1,2"},
		{"mod", "(rule p 0 (a ?x) => (mod 1 (+ ?x 1)))", "a 1; b", "0:1", 0, 0, "2:b; 3:a 2", "0:1"},
		{"mod to the same slots", "(rule p 0 (a ?x) => (mod 1 ?x))", "a 1; b", "0:1", 0, 0, "2:b; 3:a 1", "0:1"},
		{"mod to other slots", "(rule p 0 (a ?x) => (mod 1))", "a 1", "0:1", 0, 0, "2:a", "0:1"},
		{"mod of the second", "(rule p 0 (a ?x)(b ?y) => (mod 2 ?x))", "a 1; b 2", "0:1,2", 0, 0, "1:a 1; 3:b 1", "0:1,2"},
		{"mod and mod again", "(rule p 0 (a ?x) => (mod 1 7)(mod 1 8))", "a 1", "0:1", 0, 0, "3:a 8", "0:1"},
		{"mod and drop", "(rule p 0 (a ?x) => (mod 1 7)(drop 1))", "a 1; b", "0:1", 0, 0, "2:b", "0:1"},
		{"bindings are of the beginning", "(rule p 0 (a ?x) => (mod 1 7)(add b ?x)(drop 1)(add c ?x))", "a 1", "0:1", 0, 0, "3:b 1; 4:c 1", "0:1"},
		{"arguments in order", "(rule p 0 (a ?x ?y) => (add b (- ?x ?y) (- ?y ?x) ?y))", "a 5 3", "0:1", 0, 0, "1:a 5 3; 2:b 2 -2 3", ""},
		{"another rule's instantiations", "(rule p 0 (a) => (drop 1))(rule q 0 (b)(a) =>)(rule s 0 (b) =>)", "a; b; a", "0:1", 0, 0, "2:b; 3:a", "0:1 1:2,1"},
	}, 9, false)
}

// The K-th fact may be one with another K's.
func TestFireOneFactTwice(t *testing.T) {
	wantRows(t, []fireRow{
		{"dropped, then dropped by the other", "(rule p 0 (a ?x)(a ?y) => (drop 1)(drop 2))", "a 1", "0:1,1", impl.CodeNone, 2, "", "0:1,1"},
		{"dropped, then modified by the other", "(rule p 0 (a ?x)(a ?y) => (drop 2)(mod 1 5))", "a 1", "0:1,1", impl.CodeNone, 2, "", "0:1,1"},
		{"modified, then dropped by the other", "(rule p 0 (a ?x)(a ?y) => (mod 1 5)(drop 2)(add b))", "a 1", "0:1,1", 0, 0, "3:b", "0:1,1"},
		{"modified, then modified by the other", "(rule p 0 (a ?x)(a ?y) => (mod 2 5)(mod 1 6))", "a 1", "0:1,1", 0, 0, "3:a 6", "0:1,1"},
		{"modified, dropped, then named by the other", "(rule p 0 (a ?x)(a ?y) => (mod 2 5)(drop 1)(drop 2))", "a 1", "0:1,1", impl.CodeNone, 3, "", "0:1,1"},
		{"the first and the third of three", "(rule p 0 (a ?x)(a ?y)(a ?z) => (mod 3 5)(mod 2 6)(drop 1))", "a 1; a 2", "0:1,2,1", 0, 0, "4:a 6", "0:1,1,1 0:1,1,2 0:1,2,1 0:1,2,2 0:2,1,1 0:2,1,2 0:2,2,1 0:2,2,2"},
		{"two facts, one modified", "(rule p 0 (a ?x)(a (> ?x)) => (mod 1 5)(drop 2))", "a 1; a 2", "0:1,2", 0, 0, "3:a 5", "0:1,2"},
		{"two facts that are alike", "(rule p 0 (a ?x)(a ?x) => (mod 1 5)(drop 2))", "a 1; a 1", "0:1,2", 0, 0, "3:a 5", "0:1,1 0:1,2 0:2,1 0:2,2"},
		{"a fact that is added is no K", "(rule p 0 (a ?x) => (drop 1)(add a ?x)(drop 1))", "a 1", "0:1", impl.CodeNone, 3, "2:a 1", "0:1"},
	}, 9, false)
}

func TestFireFaultsByCode(t *testing.T) {
	wantRows(t, []fireRow{
		{"a drop twice", "(rule p 0 (a) => (drop 1)(drop 1)(add b))", "a", "0:1", impl.CodeNone, 2, "", "0:1"},
		{"a mod of what is gone", "(rule p 0 (a) => (add b)(drop 1)(mod 1 1)(add b))", "a", "0:1", impl.CodeNone, 3, "2:b", "0:1"},
		{"division by zero in an add", "(rule p 0 (a ?x) => (add b (/ ?x 0))(drop 1))", "a 1", "0:1", impl.CodeZero, 1, "1:a 1", ""},
		{"the rest by zero in a mod", "(rule p 0 (a ?x) => (add b ?x)(mod 1 (% ?x (- ?x 1)))(drop 1))", "a 1", "0:1", impl.CodeZero, 2, "1:a 1; 2:b 1", ""},
		{"overflow", "(rule p 0 (a ?x) => (drop 1)(add b (* ?x 2)))", "a 9223372036854775807", "0:1", impl.CodeOver, 2, "", "0:1"},
		{"a symbol in arithmetic", "(rule p 0 (a ?x) => (mod 1 7)(add b (+ ?x 1)))", "a x", "0:1", impl.CodeType, 2, "2:a 7", "0:1"},
		{"the first argument's code", "(rule p 0 (a ?x) => (add b 1 (+ ?x 1) (/ 1 0)))", "a x", "0:1", impl.CodeType, 1, "1:a x", ""},
		{"the second argument's code", "(rule p 0 (a ?x) => (add b 1 (/ 1 0) (+ ?x 1)))", "a x", "0:1", impl.CodeZero, 1, "1:a x", ""},
		{"a code of an argument ahead of one of the change", "(rule p 0 (a ?x) => (drop 1)(mod 1 (+ ?x 1)))", "a x", "0:1", impl.CodeType, 2, "", "0:1"},
		{"nothing behind the fault", "(rule p 0 (a ?x) => (add b (/ 1 0))(halt))", "a 1", "0:1", impl.CodeZero, 1, "1:a 1", ""},
	}, 9, false)
}

func TestFireInAFullStore(t *testing.T) {
	wantRows(t, []fireRow{
		{"add", "(rule p 0 (a ?x) => (add b)(drop 1))", "a 1; c", "0:1", impl.CodeFull, 1, "1:a 1; 2:c", ""},
		{"an argument's code comes first", "(rule p 0 (a ?x) => (add b (/ 1 0)))", "a 1; c", "0:1", impl.CodeZero, 1, "1:a 1; 2:c", ""},
		{"mod is no more than it was", "(rule p 0 (a ?x) => (mod 1 5)(mod 1 6))", "a 1; c", "0:1", 0, 0, "2:c; 4:a 6", "0:1"},
		{"drop makes room for one", "(rule p 0 (a ?x) => (drop 1)(add b)(add b))", "a 1; c", "0:1", impl.CodeFull, 3, "2:c; 3:b", "0:1"},
	}, 2, false)
	wantRows(t, []fireRow{
		{"a fact alike comes ahead of a full store", "(rule p 0 (a ?x) => (add c)(add a ?x)(add b))", "a 1; c", "0:1", impl.CodeFull, 3, "1:a 1; 2:c", ""},
	}, 2, true)
	full := impl.Store{Facts: manyFacts(impl.MaxFacts), Next: impl.MaxFacts + 1, Cap: impl.MaxFacts}
	rules := checkedRules(t, "(rule p 0 (a 39) => (mod 1 0)(add a 5))")
	got := impl.Fire(rules, full, instOf(t, "0:40"))
	if got.Code != impl.CodeFull || got.At != 2 || len(got.Store.Facts) != impl.MaxFacts || got.Store.Next != impl.MaxFacts+2 {
		t.Error(got.Code, got.At, got.Store.Next)
	}
}

func TestFireWithSingle(t *testing.T) {
	wantRows(t, []fireRow{
		{"add of a fact that is there is done", "(rule p 0 (a ?x) => (add a ?x)(add b)(add b)(drop 1))", "a 1", "0:1", 0, 0, "2:b", "0:1"},
		{"mod to a fact that is there", "(rule p 0 (a ?x) => (add c)(mod 1 2)(add b))", "a 1; a 2", "0:1", impl.CodeDup, 2, "1:a 1; 2:a 2; 3:c", ""},
		{"mod to itself", "(rule p 0 (a ?x) => (mod 1 ?x)(mod 1 ?x))", "a 1; a 2", "0:1", 0, 0, "2:a 2; 4:a 1", "0:1"},
		{"mod to a fact that was there", "(rule p 0 (a ?x)(a ?y) => (drop 2)(mod 1 ?y))", "a 1; a 2", "0:1,2", 0, 0, "3:a 2", "0:1,1 0:1,2 0:2,1 0:2,2"},
		{"the second place of a fact, modified to itself", "(rule p 0 (a ?x)(a ?y) => (mod 1 3)(mod 2 3)(mod 1 2))", "a 1; a 2", "0:1,1", impl.CodeDup, 3, "2:a 2; 4:a 3", "0:1,1 0:1,2 0:2,1"},
		{"add of what an action made", "(rule p 0 (a ?x) => (mod 1 3)(add a 3)(add a 1))", "a 1", "0:1", 0, 0, "2:a 3; 3:a 1", "0:1"},
	}, 9, true)
	wantRows(t, []fireRow{
		{"without it a mod to a fact that is there is done", "(rule p 0 (a ?x) => (mod 1 2)(add b))", "a 1; a 2", "0:1", 0, 0, "2:a 2; 3:a 2; 4:b", "0:1"},
	}, 9, false)
}

func TestFireWithoutTagsToGive(t *testing.T) {
	for _, row := range []struct {
		acts     string
		left     int
		code, at int
		facts    int
	}{
		{"(add b)", 0, impl.CodeTags, 1, 1},
		{"(mod 1 5)", 0, impl.CodeTags, 1, 1},
		{"(drop 1)", 0, 0, 0, 0},
		{"(drop 1)(add b)", 0, impl.CodeTags, 2, 0},
		{"(add b)(add c)(drop 1)", 1, impl.CodeTags, 2, 2},
		{"(mod 1 5)(mod 1 5)", 1, impl.CodeTags, 2, 1},
		{"(mod 1 5)(drop 1)", 1, 0, 0, 0},
		{"(add b)(mod 1 5)", 2, 0, 0, 2},
	} {
		s := storeOf(t, "a 1", 9, false)
		s.Next = impl.MaxTag + 1 - row.left
		rules := checkedRules(t, "(rule p 0 (a ?x) => "+row.acts+")")
		got := impl.Fire(rules, s, instOf(t, "0:1"))
		if got.Code != row.code || got.At != row.at || len(got.Store.Facts) != row.facts || !impl.StoreValid(got.Store) {
			t.Errorf("%s with %d tags left: %+v", row.acts, row.left, got)
		}
		if want := modelFire(rules, s, instOf(t, "0:1")); !equalFired(got, want) {
			t.Errorf("%s: the model has %+v, answered %+v", row.acts, want, got)
		}
	}
}

func TestFireHalts(t *testing.T) {
	for _, row := range []struct {
		fireRow
		halt bool
	}{
		{fireRow{"halt alone", "(rule p 0 (a) => (halt))", "a", "0:1", 0, 0, "1:a", ""}, true},
		{fireRow{"an action behind a halt", "(rule p 0 (a) => (add b)(halt)(drop 1)(add c))", "a", "0:1", 0, 0, "1:a; 2:b", ""}, true},
		{fireRow{"a fault behind a halt", "(rule p 0 (a) => (drop 1)(halt)(drop 1)(add c (/ 1 0)))", "a", "0:1", 0, 0, "", "0:1"}, true},
		{fireRow{"a halt behind a fault", "(rule p 0 (a) => (drop 1)(drop 1)(halt))", "a", "0:1", impl.CodeNone, 2, "", "0:1"}, false},
		{fireRow{"two halts", "(rule p 0 (a) => (halt)(halt))", "a", "0:1", 0, 0, "1:a", ""}, true},
		{fireRow{"no halt", "(rule p 0 (a) => (add b))(rule q 0 (a) => (halt))", "a", "0:1", 0, 0, "1:a; 2:b", ""}, false},
		{fireRow{"another rule's halt", "(rule p 0 (a) => (add b))(rule q 0 (a) => (halt))", "a", "1:1", 0, 0, "1:a", ""}, true},
	} {
		if got := wantFired(t, row.fireRow, storeOf(t, row.facts, 9, false)); got.Halt != row.halt {
			t.Errorf("%s: halt %v", row.what, got.Halt)
		}
	}
}

// Gone looks at the conflict set behind every action.
func TestFireGone(t *testing.T) {
	const bar = "(rule q 0 (a ?y) (not b 2) =>)"
	wantRows(t, []fireRow{
		{"goes and comes back", "(rule p 0 (b ?x) => (mod 1 2)(mod 1 3))" + bar, "a 1; b 1", "0:2", 0, 0, "1:a 1; 4:b 3", "0:2 1:1"},
		{"goes, comes back and goes", "(rule p 0 (b ?x) => (mod 1 2)(mod 1 3)(add b 2))" + bar, "a 1; b 1", "0:2", 0, 0, "1:a 1; 4:b 3; 5:b 2", "0:2 1:1"},
		{"goes by an add alone", "(rule p 0 (b ?x) => (add b 2))" + bar, "a 1; b 1", "0:2", 0, 0, "1:a 1; 2:b 1; 3:b 2", "1:1"},
		{"comes and goes again", "(rule p 0 (b ?x) => (mod 1 3)(mod 1 2))" + bar, "a 1; b 2", "0:2", 0, 0, "1:a 1; 4:b 2", "0:2"},
		{"comes, goes and comes again", "(rule p 0 (b ?x) => (mod 1 3)(mod 1 2)(drop 1))" + bar, "a 1; b 2", "0:2", 0, 0, "1:a 1", "0:2"},
		{"comes with a new fact and goes with it", "(rule p 0 (b ?x)(a ?y) => (mod 2 7)(mod 2 8)(drop 2))", "a 1; b 1", "0:2,1", 0, 0, "2:b 1", "0:2,1"},
		{"goes with the last action", "(rule p 0 (b ?x) => (add c)(drop 1))" + bar, "a 1; b 1", "0:2", 0, 0, "1:a 1; 3:c", "0:2"},
		{"goes ahead of a fault", "(rule p 0 (b ?x) => (mod 1 2)(mod 1 3)(add c (/ 1 0)))" + bar, "a 1; b 1", "0:2", impl.CodeZero, 3, "1:a 1; 4:b 3", "0:2 1:1"},
		{"goes ahead of a halt", "(rule p 0 (b ?x) => (mod 1 2)(mod 1 3)(halt)(add b 2))" + bar, "a 1; b 1", "0:2", 0, 0, "1:a 1; 4:b 3", "0:2 1:1"},
		{"would go behind a halt", "(rule p 0 (b ?x) => (halt)(add b 2))" + bar, "a 1; b 1", "0:2", 0, 0, "1:a 1; 2:b 1", ""},
		{"a mod is one change", "(rule p 0 (b ?x) => (mod 1 2))(rule q 0 (a ?y) (b _) =>)(rule s 0 (a ?y) (not c) =>)", "a 1; b 1", "0:2", 0, 0, "1:a 1; 3:b 2", "0:2 1:1,2"},
		{"barred by one fact and then by another", "(rule p 0 (b ?x) => (mod 1 2)(mod 1 2))" + bar, "a 1; b 2", "0:2", 0, 0, "1:a 1; 4:b 2", "0:2"},
		{"another comes and goes by the last action", "(rule p 0 (a ?x)(b ?y)(not b 2) => (add c)(mod 2 2))(rule q 0 (c) (not b 2) =>)", "a 1; b 1", "0:1,2", 0, 0, "1:a 1; 3:c; 4:b 2", "0:1,2"},
		{"the fired one bars itself", "(rule p 0 (a ?x)(not b ?x) => (add b ?x))", "a 1; a 2", "0:1", 0, 0, "1:a 1; 2:a 2; 3:b 1", "0:1"},
		{"in order by rule, then by tags", "(rule p 0 (a ?x)(a ?y) => (add c))(rule q 0 (a ?x)(not c) =>)(rule s 0 (a ?x)(a ?y)(not c) =>)", "a 1; 10: a 2; 11: a 3", "0:1,1", 0, 0, "1:a 1; 10:a 2; 11:a 3; 12:c",
			"1:1 1:10 1:11 2:1,1 2:1,10 2:1,11 2:10,1 2:10,10 2:10,11 2:11,1 2:11,10 2:11,11"},
	}, 9, false)
}

// What goes and comes back within a firing is both in Gone and in the conflict
// set behind it.
func TestFireOfWhatComesBack(t *testing.T) {
	rules := checkedRules(t, "(rule p 0 (a ?x)(b ?y)(not c 2) => (add e)(drop 2))(rule q 9 (c ?z)(b ?y) => (mod 1 2)(mod 1 3))")
	got := impl.Fire(rules, storeOf(t, "a 1; b 1; c 1", 9, false), instOf(t, "1:3,2"))
	if got.Code != 0 || showInsts(got.Gone) != "0:1,2 1:3,2" || showFacts(got.Store.Facts) != "1:a 1; 2:b 1; 5:c 3" {
		t.Errorf("%+v", got)
	}
	if back := showInsts(impl.Conflict(rules, got.Store.Facts)); back != "0:1,2 1:5,2" {
		t.Error(back)
	}
}
