package tests

import (
	"slices"
	"strings"
	"testing"

	"loop.example/s01311/impl"
)

// Rules by cost: p*p*p + 2*n against 4 + 2*j.
func TestModesByCost(t *testing.T) {
	const rete, treat = impl.ModeRete, impl.ModeTreat
	joins := func(n int) string { return strings.Repeat(" ?x", n) }
	for _, row := range []struct {
		what string
		pats string
		want int
	}{
		{"1 against 4", "(a)", rete},
		{"3 against 4: just below", "(a)(not b)", rete},
		{"5 against 4: just above", "(a)(not b)(not b)", treat},
		{"5 against 6: a join in a negated pattern", "(a ?x)(not b)(not b ?x)", rete},
		{"5 against 6: a test in a negated pattern", "(a ?x)(not b)(not b (> ?x))", rete},
		{"5 against 4: a test with a value", "(a ?x)(not b)(not b (> 1))", treat},
		{"5 against 4: a constant", "(a ?x)(not b)(not b 1)", treat},
		{"5 against 4: another variable", "(a ?x)(not b)(not b ?y)", treat},
		{"5 against 4: the negated one ahead", "(not b)(not b ?x)(a ?x)", treat},
		{"7 against 6", "(a ?x)(not b)(not b ?x)(not b)", treat},
		{"7 against 8", "(a ?x)(not b)(not b ?x)(not b ?x)", rete},
		{"11 against 10", "(a ?x)(not b ?x ?x ?x)(not b)(not b)(not b)(not b)", treat},
		{"11 against 12", "(a ?x)(not b ?x ?x ?x)(not b)(not b)(not b)(not b ?x)", rete},
		{"8 against 4", "(a)(a)", treat},
		{"8 against 6: two below", "(a ?x)(a ?x)", treat},
		{"8 against 8: at the bound", "(a ?x)(a ?x ?x)", rete},
		{"8 against 8: two tests", "(a ?x)(a (> ?x) (< ?x))", rete},
		{"8 against 8: two variables", "(a ?x ?y)(a ?y (!= ?x))", rete},
		{"8 against 10: above the need", "(a ?x)(a ?x ?x ?x)", rete},
		{"10 against 8", "(a ?x)(a ?x ?x)(not b)", treat},
		{"10 against 10", "(a ?x)(a ?x ?x)(not b ?x)", rete},
		{"27 against 26", "(a ?x)(a" + joins(6) + ")(a" + joins(5) + ")", treat},
		{"27 against 28", "(a ?x)(a" + joins(6) + ")(a" + joins(6) + ")", rete},
		{"33 against 32", "(a ?x)(a" + joins(6) + ")(a" + joins(6) + ")(not b ?x ?x)(not b)(not b)", treat},
		{"33 against 34", "(a ?x)(a" + joins(6) + ")(a" + joins(6) + ")(not b ?x ?x)(not b)(not b ?x)", rete},
		{"10 against 4: known from a negated one alone", "(a)(not c ?x)(a ?x ?x ?x)", treat},
		{"10 against 8: known from a negated one at first", "(not c ?x)(a ?x)(a ?x ?x)", treat},
		{"10 against 10: known from a negated one and a positive one", "(not c ?x)(a ?x)(a ?x ?x ?x)", rete},
		{"5 against 4: known from a negated one to another", "(a)(not b ?x)(not b ?x ?x ?x)", treat},
		{"8 against 4: known from the same pattern", "(a ?x ?x ?x ?x)(a ?y ?y ?y)", treat},
		{"8 against 4: tests of the same pattern", "(a ?x (> ?x) (> ?x))(a ?y (< ?y) (< ?y))", treat},
		{"8 against 6: one of the earlier, others of the same", "(a ?x)(a ?x ?y ?y ?y)", treat},
		{"8 against 8: a test behind the same pattern's own", "(a ?x)(a ?x (> ?x))", rete},
		{"8 against 8: the first of three terms is any", "(a ?x)(a _ ?x ?x)", rete},
	} {
		rules := []impl.Rule{ruleOf(t, row.pats)}
		if got := impl.Modes(rules, 2); !slices.Equal(got, []int{row.want}) {
			t.Errorf("%s: %s: %v, asked for %d", row.what, row.pats, got, row.want)
		}
	}
}

func TestModesOfEachHow(t *testing.T) {
	rules := checkedRules(t, "(rule p 9 (a)(a) =>)(rule q 0 (a) =>)(rule s 0 (a) =>)(rule u -3 (a)(a)(a) =>)(rule v 0 (a)(not b) => (halt))")
	for how, want := range [][]int{{0, 0, 0, 0, 0}, {1, 1, 1, 1, 1}, {1, 0, 0, 1, 0}, {0, 1, 0, 1, 0}} {
		for n := range rules {
			if got := impl.Modes(rules[:n+1], how); !slices.Equal(got, want[:n+1]) {
				t.Errorf("how %d, %d rules: %v, asked for %v", how, n+1, got, want[:n+1])
			}
		}
		if got := impl.Modes(nil, how); len(got) != 0 {
			t.Errorf("how %d, no rules: %v", how, got)
		}
	}
	for _, how := range []int{-1, 4, 5, 77, -4, leastNumber, mostNumber} {
		if got := impl.Modes(rules, how); len(got) != 0 {
			t.Errorf("how %d: %v", how, got)
		}
	}
}

// modelMode counts the joins of a rule from the text of the document: for each
// term it looks for an earlier positive pattern that binds its variable.
func modelMode(r impl.Rule) int {
	p, n, j := 0, 0, 0
	for k, pat := range r.Pats {
		if pat.Neg {
			n++
		} else {
			p++
		}
		for _, term := range pat.Terms {
			asks := term.Kind == impl.TermVar || term.Kind == impl.TermTest && term.Var != ""
			if asks && slices.ContainsFunc(r.Pats[:k], func(earlier impl.Pattern) bool {
				return !earlier.Neg && slices.Contains(earlier.Terms, termVar(term.Var))
			}) {
				j++
			}
		}
	}
	if p*p*p+2*n <= 4+2*j {
		return impl.ModeRete
	}
	return impl.ModeTreat
}

func TestModesAgainstTheModel(t *testing.T) {
	d, counts := dice(25), [2]int{}
	for range 800 {
		rules := d.smallRules(1 + d.roll(4))
		want := [][]int{modesOf(len(rules), 0), modesOf(len(rules), 1), nil, mixedModes(len(rules), 0)}
		for _, r := range rules {
			want[2] = append(want[2], modelMode(r))
			counts[modelMode(r)]++
		}
		for how := range 4 {
			if got := impl.Modes(rules, how); !slices.Equal(got, want[how]) {
				t.Fatalf("%s: how %d: %v, asked for %v", impl.PrintRules(rules), how, got, want[how])
			}
		}
	}
	if counts[0] < 100 || counts[1] < 100 {
		t.Error(counts)
	}
}

// What Modes tells, Follow takes.
func TestModesAreTakenByFollow(t *testing.T) {
	d := dice(26)
	for range 100 {
		x := trip{d.smallRules(1 + d.roll(4)), 6, false, d.smallOps(12)}
		model := modelFollow(x.rules, x.room, x.single, x.ops)
		for how := range 4 {
			modes := impl.Modes(x.rules, how)
			wantSteps(t, string(impl.PrintRules(x.rules)), x.follow(modes), modes, model)
		}
	}
}
