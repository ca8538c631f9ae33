package tests

import (
	"slices"
	"testing"

	"loop.example/s01311/impl"
)

// A matchRow is a rule's patterns over facts, its instantiations and its Tokens.
type matchRow struct {
	pats   string
	facts  string
	want   string
	tokens int
}

func plainRows() []matchRow {
	return []matchRow{
		{"(a)", "", "", 0},
		{"(a)", "a", "0:1", 1},
		{"(a)", "a; b; a; a 1", "0:1 0:3", 2},
		{"(a)", "5: a; 700: a; 1000000: a", "0:5 0:700 0:1000000", 3},
		{"(a _ _ _ _ _ _)", "a 1 2 3 4 5 6; a 1 2 3 4 5", "0:1", 1},
		{"(a ?a ?b ?c ?d ?e ?f) (b ?f ?e ?d ?c ?b ?a)", "a 1 2 3 x 5 6; b 6 5 x 3 2 1; b 6 5 x 3 2 2", "0:1,2", 2},
		{"(a 1 2 3 4 5 6)", "a 1 2 3 4 5 6; a 1 2 3 4 5 7", "0:1", 1},
		{"(a x)", "a x; a y; a 0", "0:1", 1},
		{"(a 0)", "a x; a 0", "0:2", 1},
		// A variable twice in one pattern, and in two.
		{"(a ?x ?x)", "a 1 1; a 1 2; a x x", "0:1 0:3", 2},
		{"(a ?x) (b ?x)", "a 1; b 1; a 2; b 1; b 2", "0:1,2 0:1,4 0:3,5", 5},
		{"(a ?x) (b ?x ?x)", "a 1; b 1 1; b 1 2; b 2 2", "0:1,2", 2},
		{"(a ?x ?y) (a ?y ?x)", "a 1 2; a 2 1; a 3 3", "0:1,2 0:2,1 0:3,3", 6},
		// Tests with a value, on the pattern's own variable and an earlier one's.
		{"(a (> 1))", "a 1; a 2; a x", "0:2", 1},
		{"(a (!= x))", "a x; a y; a 0", "0:2 0:3", 2},
		{"(a ?x (> ?x))", "a 1 2; a 2 1; a 1 1; a x y", "0:1", 1},
		{"(a ?x) (a (> ?x))", "a 1; a 2; a 3; a x", "0:1,2 0:1,3 0:2,3", 7},
		{"(a ?x) (a (!= ?x))", "a 1; a x", "0:1,2 0:2,1", 4},
		{"(a ?x) (b (> ?x) ?x)", "a 1; b 2 1; b 1 1; b 2 2", "0:1,2", 2},
		{"(a ?x) (b ?x (> ?x) (< ?x))", "a 1; b 1 2 0; b 2 3 1; b 1 2 1", "0:1,2", 2},
		{"(a ?x) (a ?y) (b (= ?x) (= ?y))", "a 1; a 2; b 1 2; b 2 1", "0:1,2,3 0:2,1,4", 8},
		{"(a ?x) (a ?y (>= ?x)) (a (<= ?y))", "a 1; a 2 1; a 1 1; a 2", "0:1,2,1 0:1,2,4 0:1,3,1", 7},
	}
}

func negatedRows() []matchRow {
	return []matchRow{
		{"(not b) (a)", "", "", 1},
		{"(not b) (a)", "a", "0:1", 2},
		{"(not b) (a)", "a; b", "", 0},
		{"(not b) (not c) (not d) (a)", "", "", 3},
		{"(not b) (not c) (not d) (a)", "c", "", 1},
		{"(not b) (not c) (not d) (a)", "a; a", "0:1 0:2", 5},
		{"(a ?x) (not b ?x)", "a 1; a 2; b 1", "0:2", 3},
		{"(a ?x) (not b ?x)", "a 1; a 2; b 1; b 1; b 2", "", 2},
		{"(a ?x) (not a (> ?x))", "a 1; a 3; a 2; a x", "0:2 0:4", 6},
		{"(a ?x) (not a (!= ?x))", "a 1; a 1", "0:1 0:2", 4},
		{"(a ?x) (not a ?x)", "a 1; a 2", "", 2},
		{"(a ?x) (not b ?x) (c ?x)", "a 1; a 2; b 1; c 1; c 2", "0:2,5", 4},
		{"(a ?x) (not b ?x) (c ?x) (not d ?x) (a ?x) (not b 7)", "a 1; c 1; a 1", "0:1,2,1 0:1,2,3 0:3,2,1 0:3,2,3", 16},
		// A negated pattern binds for itself alone: both ahead of and behind it
		// its names are those of others.
		{"(not b ?y) (a ?y)", "a 1", "0:1", 2},
		{"(not b ?y) (a ?y)", "a 1; b 2", "", 0},
		{"(a ?x) (not b ?y) (c ?y)", "a 1; c 1; c 2", "0:1,2 0:1,3", 4},
		{"(a ?x) (not b ?y ?y) (not c ?y ?y)", "a 1; b 1 2; c 2 1", "0:1", 3},
		{"(a ?x) (not b ?y ?y) (not c ?y ?y)", "a 1; b 1 2; c 2 2", "", 2},
		{"(a ?x) (not b ?y ?y) (not c ?y ?y)", "a 1; b 1 1; c 2 1", "", 1},
		{"(a _) (not b ?y (> ?y)) (c ?y) (not b ?y _)", "a 1; b 2 1; c 1; c 2", "0:1,3", 5},
		{"(a ?x) (not b ?y (> ?x)) (c ?y)", "a 5; b 1 3; c 8", "0:1,3", 3},
		{"(a ?x) (not b ?y (> ?x)) (c ?y)", "a 5; b 1 6; c 8", "", 1},
		// It sees what is bound ahead of it alone.
		{"(not b ?x) (a ?x)", "a 1; b 2", "", 0},
		{"(a ?x) (not b ?x ?y) (a ?y)", "a 1; a 2; b 1 2", "0:2,1 0:2,2", 5},
		{"(a ?x) (a ?y) (not b ?x ?y)", "a 1; a 2; b 1 2", "0:1,1 0:2,1 0:2,2", 9},
		{"(not a 1) (a 2)", "a 2; a 2", "0:1 0:2", 3},
		{"(not a ?x (= ?x)) (b)", "b; a 1 2", "0:1", 2},
		{"(not a ?x (= ?x)) (b)", "b; a 1 1", "", 0},
	}
}

func placesRows() []matchRow {
	return []matchRow{
		{"(a) (a)", "a", "0:1,1", 2},
		{"(a) (a)", "a; a", "0:1,1 0:1,2 0:2,1 0:2,2", 6},
		{"(a) (a) (a)", "a", "0:1,1,1", 3},
		{"(a) (a) (a)", "a; 9: a", "0:1,1,1 0:1,1,9 0:1,9,1 0:1,9,9 0:9,1,1 0:9,1,9 0:9,9,1 0:9,9,9", 14},
		{"(a ?x) (b) (a ?x)", "a 1; b; a 1", "0:1,2,1 0:1,2,3 0:3,2,1 0:3,2,3", 8},
		{"(a ?x) (a ?x) (not a (> ?x))", "a 1; a 2", "0:2,2", 5},
		{"(a ?x) (a (!= ?x))", "a 1", "", 1},
	}
}

func TestConflictSets(t *testing.T) {
	for _, row := range slices.Concat(plainRows(), negatedRows(), placesRows()) {
		r, facts := ruleOf(t, row.pats), factsOf(t, row.facts)
		if got := showInsts(impl.Conflict([]impl.Rule{r}, facts)); got != row.want {
			t.Errorf("%s over %s: %s, asked for %s", row.pats, row.facts, got, row.want)
		}
		if got := impl.Tokens(r, facts); got != row.tokens {
			t.Errorf("%s over %s: %d tokens, asked for %d", row.pats, row.facts, got, row.tokens)
		}
		if got := showInsts(modelConflict([]impl.Rule{r}, facts)); got != row.want || modelTokens(r, facts) != row.tokens {
			t.Errorf("%s over %s: the model tells %s", row.pats, row.facts, got)
		}
		for _, tags := range tuples(facts, positives(r.Pats)) {
			want := slices.Contains(splitWords(row.want), showInst(impl.Inst{Tags: tags}))
			if got := impl.Holds(r, facts, tags); got != want {
				t.Errorf("%s over %s: Holds of %v is %v", row.pats, row.facts, tags, got)
			}
		}
	}
}

// By rule first, then by tags as numbers.
func TestOrderOfInstantiations(t *testing.T) {
	rules := checkedRules(t, "(rule z 9 (a _) (b) =>)(rule y -5 (b) =>)(rule x 7 (c) =>)(rule w 0 (b) (a _) =>)")
	facts := factsOf(t, "2: b; 9: a 0; 10: b; 11: a 1; 100: b")
	want := "0:9,2 0:9,10 0:9,100 0:11,2 0:11,10 0:11,100 1:2 1:10 1:100 3:2,9 3:2,11 3:10,9 3:10,11 3:100,9 3:100,11"
	if got := showInsts(impl.Conflict(rules, facts)); got != want {
		t.Errorf("%s, asked for %s", got, want)
	}
	if got := impl.Conflict(nil, facts); len(got) != 0 {
		t.Error(got)
	}
	if got := impl.Conflict(rules, nil); len(got) != 0 {
		t.Error(got)
	}
}

func TestBindings(t *testing.T) {
	for _, row := range []struct {
		pats  string
		facts string
		tags  []int
		want  []impl.Bind
	}{
		{"(a)", "a", []int{1}, nil},
		{"(a 1 _ (> 1))", "a 1 2 3", []int{1}, nil},
		{"(a ?x)", "a 1", []int{1}, []impl.Bind{{Var: "x", Val: number(1)}}},
		{"(a ?x)", "a 0", []int{1}, []impl.Bind{{Var: "x", Val: number(0)}}},
		{"(a ?y ?x ?y)", "a q 2 q", []int{1}, []impl.Bind{{Var: "y", Val: symbol("q")}, {Var: "x", Val: number(2)}}},
		{"(a ?x) (a ?y)", "a 1; a 2", []int{2, 1}, []impl.Bind{{Var: "x", Val: number(2)}, {Var: "y", Val: number(1)}}},
		{"(a ?x) (b ?y ?x ?z)", "a 1; b 2 1 3", []int{1, 2}, []impl.Bind{{Var: "x", Val: number(1)}, {Var: "y", Val: number(2)}, {Var: "z", Val: number(3)}}},
		// What a negated pattern binds is forgotten behind it.
		{"(not b ?y) (a ?x) (not b ?z ?z) (a ?y)", "a 1; a 2; b 1 2", []int{1, 2}, []impl.Bind{{Var: "x", Val: number(1)}, {Var: "y", Val: number(2)}}},
		{"(a ?x) (not b ?y)", "a 1", []int{1}, []impl.Bind{{Var: "x", Val: number(1)}}},
		{"(a ?x) (not b ?y)", "a 1; b 2", []int{1}, nil},
		{"(a ?x) (a ?y) (a ?z)", "a 7", []int{1, 1, 1}, []impl.Bind{{Var: "x", Val: number(7)}, {Var: "y", Val: number(7)}, {Var: "z", Val: number(7)}}},
		{"(a ?f ?e ?d ?c ?b ?a)", "a 1 2 3 4 5 6", []int{1}, []impl.Bind{{Var: "f", Val: number(1)}, {Var: "e", Val: number(2)}, {Var: "d", Val: number(3)},
			{Var: "c", Val: number(4)}, {Var: "b", Val: number(5)}, {Var: "a", Val: number(6)}}},
	} {
		if got := impl.Bindings(ruleOf(t, row.pats), factsOf(t, row.facts), row.tags); !same(got, row.want) {
			t.Errorf("%s over %s: %+v, asked for %+v", row.pats, row.facts, got, row.want)
		}
	}
}

// wantNoMatch wants Holds and Bindings to find nothing.
func wantNoMatch(t *testing.T, what string, r impl.Rule, facts []impl.Fact, tags []int) {
	t.Helper()
	if impl.Holds(r, facts, tags) {
		t.Errorf("%s: holds", what)
	}
	if got := impl.Bindings(r, facts, tags); len(got) != 0 {
		t.Errorf("%s: bindings %+v", what, got)
	}
}

func TestTagsThatAreNoMatch(t *testing.T) {
	r, facts := ruleOf(t, "(a ?x) (not c) (b ?x)"), factsOf(t, "3: a 1; 5: b 1; 8: a 2")
	if !impl.Holds(r, facts, []int{3, 5}) {
		t.Fatal("holds")
	}
	for _, tags := range [][]int{nil, {}, {3}, {5}, {3, 5, 8}, {3, 5, 5}, {3, 5, 0}, {3, 3, 5}, {5, 3}, {8, 5}, {3, 4}, {4, 5}, {0, 5}, {3, 0}, {-3, 5}, {3, -5}, {1, 2}, {0, 1},
		{1000000, 5}, {3, 1000001}, {3, 3}, {5, 5}, make([]int, 100000)} {
		wantNoMatch(t, "tags", r, facts, tags)
	}
	wantNoMatch(t, "no facts", r, nil, []int{3, 5})
	wantNoMatch(t, "no facts and no tags", r, nil, nil)
}

func TestMatchingRulesThatAreNotChecked(t *testing.T) {
	facts := factsOf(t, "a 1; a 2")
	for name, rules := range uncheckedRules(t) {
		if got := impl.Conflict(rules, facts); len(got) != 0 {
			t.Errorf("%s: %s", name, showInsts(got))
		}
		last := rules[len(rules)-1]
		if impl.CheckRules([]impl.Rule{last}).Code == impl.CheckOK {
			continue // at fault among the others alone
		}
		for _, tags := range [][]int{nil, {1}, {1, 1}, {1, 1, 1}, {1, 1, 1, 1}} {
			wantNoMatch(t, name, last, facts, tags)
		}
		if got := impl.Tokens(last, facts); got != 0 {
			t.Errorf("%s: %d tokens", name, got)
		}
	}
	for _, p := range wrongPatterns() {
		r := impl.Rule{Name: "r", Pats: []impl.Pattern{positive("a", termAny()), p}}
		if impl.Tokens(r, facts) != 0 || len(impl.Conflict([]impl.Rule{r}, facts)) != 0 {
			t.Errorf("matched by a wrong pattern: %+v", p)
		}
		wantNoMatch(t, "wrong pattern", r, facts, []int{1, 1})
	}
}

func TestMatchingFactsThatAreNotGood(t *testing.T) {
	r := ruleOf(t, "(not c) (a 0)")
	for name, facts := range badFacts() {
		if got := impl.Conflict([]impl.Rule{r}, facts); len(got) != 0 {
			t.Errorf("%s: %s", name, showInsts(got))
		}
		if got := impl.Tokens(r, facts); got != 0 {
			t.Errorf("%s: %d tokens", name, got)
		}
		wantNoMatch(t, name, r, facts, []int{facts[0].Tag})
	}
}
