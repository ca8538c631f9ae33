package tests

import (
	"testing"

	"loop.example/s01311/impl"
)

func wantNoRun(t *testing.T, what string, got impl.Ran) {
	t.Helper()
	if !equalRan(got, impl.Ran{}) {
		t.Errorf("%s: %+v, asked for the zero Ran", what, got)
	}
}

func TestRunWithWrongFuel(t *testing.T) {
	rules, s := checkedRules(t, endless), storeOf(t, "n 0", 5, false)
	for _, n := range []int{-1, -2, impl.MaxFuel + 1, impl.MaxFuel * 2, leastNumber, mostNumber} {
		wantNoRun(t, "fuel", impl.RunRules(rules, s, nil, n))
		wantNoRun(t, "fuel, and nothing to fire", impl.RunRules(nil, s, nil, n))
	}
	for _, n := range []int{0, 1, impl.MaxFuel} {
		if got := impl.RunRules(rules, s, nil, n); got.Stop != atFuel || len(got.Fired) != n {
			t.Errorf("fuel %d: %+v", n, got)
		}
	}
}

func TestRunOfUncheckedRules(t *testing.T) {
	s := storeOf(t, "a 1", 9, false)
	for what, rules := range uncheckedRules(t) {
		wantNoRun(t, what, impl.RunRules(rules, s, nil, 5))
		wantNoRun(t, what+", no fuel", impl.RunRules(rules, s, nil, 0))
		wantNoRun(t, what+", no facts", impl.RunRules(rules, impl.Store{Next: 1}, nil, 5))
	}
	for _, rules := range [][]impl.Rule{nil, {}} {
		if got := impl.RunRules(rules, s, nil, 5); !equalRan(got, impl.Ran{Stop: atIdle, Store: s}) {
			t.Errorf("no rules: %+v", got)
		}
	}
}

func TestRunOfStoresThatAreNotValid(t *testing.T) {
	rules := checkedRules(t, "(rule p 0 (a _) => (halt))")
	for what, facts := range badFacts() {
		wantNoRun(t, what, impl.RunRules(rules, impl.Store{Facts: facts, Next: impl.MaxTag, Cap: impl.MaxFacts}, nil, 5))
	}
	for what, spoil := range spoilings() {
		s := storeOf(t, "a 1; a 1", 9, false)
		if got := impl.RunRules(rules, s, nil, 5); got.Stop != atHalt {
			t.Fatalf("%+v", got)
		}
		spoil(&s)
		wantNoRun(t, what, impl.RunRules(rules, s, nil, 5))
		wantNoRun(t, what+", no rules", impl.RunRules(nil, s, nil, 5))
	}
	empty := impl.Store{Next: 1}
	if got := impl.RunRules(rules, empty, nil, 5); !equalRan(got, impl.Ran{Stop: atIdle, Store: empty}) {
		t.Errorf("an empty store: %+v", got)
	}
}

// What is wrong in spent counts for nothing, however long it is.
func TestRunWithWrongSpent(t *testing.T) {
	rules, s := checkedRules(t, "(rule p 0 (a _) =>)"), storeOf(t, "a 1", 9, false)
	spent := []impl.Inst{{}, {Rule: 5}, {Rule: -5}, {Tags: make([]int, 100000)}, {Tags: []int{1, 1}}, {Tags: []int{leastNumber}}, {Tags: []int{mostNumber}}, {Rule: mostNumber, Tags: []int{1}}}
	want := impl.Ran{Stop: atIdle, Store: s, Fired: []impl.Firing{{Tags: []int{1}}}, Spent: instsOf(t, "0:1")}
	if got := impl.RunRules(rules, s, spent, 5); !equalRan(got, want) {
		t.Errorf("%+v", got)
	}
}
