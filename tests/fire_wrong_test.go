package tests

import (
	"testing"

	"loop.example/s01311/impl"
)

func wantNoFiring(t *testing.T, what string, got impl.Fired) {
	t.Helper()
	if !equalFired(got, impl.Fired{Code: impl.CodeBad}) {
		t.Errorf("%s: %+v, asked for CodeBad and all else zero", what, got)
	}
}

func TestFireOfUncheckedRules(t *testing.T) {
	s := storeOf(t, "a 1", 9, false)
	for what, rules := range uncheckedRules(t) {
		wantNoFiring(t, what, impl.Fire(rules, s, instOf(t, "0:1")))
	}
	wantNoFiring(t, "no rules", impl.Fire(nil, s, instOf(t, "0:1")))
	wantNoFiring(t, "an empty list of rules", impl.Fire([]impl.Rule{}, s, instOf(t, "0:1")))
	wantNoFiring(t, "no instantiation", impl.Fire(checkedRules(t, "(rule p 0 (a ?x) =>)"), s, impl.Inst{}))
}

func TestFireOfStoresThatAreNotValid(t *testing.T) {
	rules := checkedRules(t, "(rule p 0 (a _) => (halt))")
	for what, facts := range badFacts() {
		wantNoFiring(t, what, impl.Fire(rules, impl.Store{Facts: facts, Next: impl.MaxTag, Cap: impl.MaxFacts}, instOf(t, "0:1")))
	}
	for what, spoil := range spoilings() {
		s := storeOf(t, "a 1; a 1", 9, false)
		if got := impl.Fire(rules, s, instOf(t, "0:1")); got.Code != impl.CodeOK || !got.Halt {
			t.Fatalf("%+v", got)
		}
		spoil(&s)
		wantNoFiring(t, what, impl.Fire(rules, s, instOf(t, "0:1")))
	}
	wantNoFiring(t, "an empty store", impl.Fire(rules, impl.Store{Next: 1}, instOf(t, "0:1")))
}

func TestFireOfWhatIsNotInTheConflictSet(t *testing.T) {
	rules := checkedRules(t, "(rule p 0 (a ?x)(a (> ?x))(not c ?x) => (drop 1))(rule q 5 (b ?x) => (halt))")
	s := storeOf(t, "a 1; a 2; b 1; a 3; c 2", 9, false)
	for _, x := range impl.Conflict(rules, s.Facts) {
		if got := impl.Fire(rules, s, x); got.Code != impl.CodeOK {
			t.Errorf("%s: %+v", showInst(x), got)
		}
	}
	for _, text := range []string{
		"0:", "0:1", "0:1,1", "0:2,1", "0:2,4", "0:1,3", "0:3,1", "0:1,2,4", "0:1,2,2", "0:1,9", "0:0,2", "0:-1,2", "0:1,1000001",
		"1:", "1:1", "1:3,3", "1:3,3,3,3", "1:0", "2:1", "2:", "-1:1", "-1:3", "9:3", "9223372036854775807:3", "-9223372036854775808:1,2", "0:1,2,1,2,1,2,1,2",
	} {
		wantNoFiring(t, text, impl.Fire(rules, s, instOf(t, text)))
	}
	wantNoFiring(t, "all tags", impl.Fire(rules, s, impl.Inst{Rule: 1, Tags: make([]int, 100000)}))
	if got := impl.Fire(rules, s, instOf(t, "0:1,2")); got.Code != impl.CodeOK || showInsts(got.Gone) != "0:1,2 0:1,4" {
		t.Errorf("%+v", got)
	}
}
