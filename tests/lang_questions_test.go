package tests

import (
	"strings"
	"testing"

	"loop.example/s01311/impl"
)

type checkRow struct {
	text string
	code int
	rule int
	item int
}

func TestNamesAndPositives(t *testing.T) {
	for _, row := range []checkRow{
		{"(rule a 0 (b) =>)(rule b 0 (b) =>)(rule c 0 (b) =>)", 0, 0, 0},
		{"(rule a 0 (b) =>)(rule b 0 (b) =>)(rule a 1 (c) =>)", impl.CheckName, 2, 0},
		{"(rule a 0 (b) =>)(rule b 0 (b) =>)(rule b 1 (c) =>)(rule a 0 (b) =>)", impl.CheckName, 2, 0},
		{"(rule a 0 =>)", impl.CheckPos, 0, 0},
		{"(rule a 0 (not b)(not b) =>)", impl.CheckPos, 0, 0},
		{"(rule a 0 (b) =>)(rule b 0 (not b) =>)", impl.CheckPos, 1, 0},
		{"(rule a 0 (b)(not c)(b)(not c)(b)(not c) =>)", 0, 0, 0},
		{"(rule a 0 (b)(not c)(b)(b)(not c)(b) =>)", impl.CheckPos, 0, 0},
		{"(rule a 0 (b)(b)(b)(b)(b)(b) =>)", impl.CheckPos, 0, 0},
	} {
		if got := checkOf(t, row.text); got != (impl.Check{Code: row.code, Rule: row.rule, Item: row.item}) {
			t.Errorf("%s: %+v", row.text, got)
		}
	}
}

func TestKnownVariables(t *testing.T) {
	for _, row := range []checkRow{
		{"(rule a 0 (b ?x) => (add c ?x))", 0, 0, 0},
		{"(rule a 0 (b ?x) (c (< ?x)) =>)", 0, 0, 0},
		{"(rule a 0 (b ?x) (not c (< ?x)) =>)", 0, 0, 0},
		{"(rule a 0 (b) (c ?x) (b (< ?x)) => (mod 1 (+ ?x ?x)))", 0, 0, 0},
		{"(rule a 0 (b (< ?x)) =>)", impl.CheckVar, 0, 1},
		{"(rule a 0 (b (< ?x) ?x) =>)", impl.CheckVar, 0, 1},
		{"(rule a 0 (b (= ?x)) (b ?x) =>)", impl.CheckVar, 0, 1},
		{"(rule a 0 (b) (c 1 x (= ?x)) =>)", impl.CheckVar, 0, 2},
		{"(rule a 0 (b x) => (add c ?x))", impl.CheckVar, 0, 2},
		{"(rule a 0 (b ?x ?y) => (halt) (add c (+ 1 (- ?y ?z))))", impl.CheckVar, 0, 3},
		{"(rule a 0 (b) => (halt) (drop 1) (mod 1 2 ?z 3) (add c ?z))", impl.CheckVar, 0, 4},
		{"(rule a 0 (b ?x) => (add c ?x 1) (add d) (add e ?y) (add f ?x))", impl.CheckVar, 0, 4},
		// A test does not make its variable known, nor does a value of that name.
		{"(rule a 0 (b ?x (= ?x)) (c (< ?y)) => (add c ?y))", impl.CheckVar, 0, 2},
		// Known in its negated pattern alone, behind its TermVar.
		{"(rule a 0 (b) (not b ?x (= ?x)) =>)", 0, 0, 0},
		{"(rule a 0 (b) (not b (= ?x) ?x) =>)", impl.CheckVar, 0, 2},
		{"(rule a 0 (not b ?x) (b (= ?x)) =>)", impl.CheckVar, 0, 2},
		{"(rule a 0 (b) (not b ?x) (not b (= ?x)) =>)", impl.CheckVar, 0, 3},
		{"(rule a 0 (b) (not b ?x) => (add c ?x))", impl.CheckVar, 0, 3},
		{"(rule a 0 (b) (not b ?x (< ?x)) (not c ?x (> ?x)) =>)", 0, 0, 0},
		// Not known at first, then known from a positive pattern.
		{"(rule a 0 (not b ?x (= ?x)) (b ?x (= ?x)) (not c (< ?x)) => (add c ?x))", 0, 0, 0},
		{"(rule a 0 (not b ?x) (b) (c (< ?x)) (b ?x) => (add c ?x))", impl.CheckVar, 0, 3},
		// Known from a positive pattern, a negated one does not forget it.
		{"(rule a 0 (b ?x) (not c ?x (= ?x)) (d (> ?x)) => (add e ?x))", 0, 0, 0},
		{"(rule a 0 (b ?x) (not c ?y ?x) (d (> ?x)) => (add e ?y))", impl.CheckVar, 0, 4},
		// Each rule knows its own variables alone.
		{"(rule a 0 (b ?x) => (add c ?x))(rule b 0 (b) => (add c ?x))", impl.CheckVar, 1, 2},
	} {
		if got := checkOf(t, row.text); got != (impl.Check{Code: row.code, Rule: row.rule, Item: row.item}) {
			t.Errorf("%s: %+v", row.text, got)
		}
	}
}

func TestReferences(t *testing.T) {
	for _, row := range []checkRow{
		{"(rule a 0 (b) (not c) (b) (b) => (drop 3) (mod 1) (mod 2 1))", 0, 0, 0},
		{"(rule a 0 (b) (not c) (b) => (drop 3))", impl.CheckRef, 0, 4},
		{"(rule a 0 (b) => (drop 1) (drop 0))", impl.CheckRef, 0, 3},
		{"(rule a 0 (b) => (mod -1))", impl.CheckRef, 0, 2},
		{"(rule a 0 (b) => (mod 2 1))", impl.CheckRef, 0, 2},
		{"(rule a 0 (b) => (halt) (mod 1) (add c) (mod 1000000))", impl.CheckRef, 0, 5},
		{"(rule a 0 (b) => (drop 1000001))", impl.CheckRef, 0, 2},
		{"(rule a 0 (b) => (drop 4294967297))", impl.CheckRef, 0, 2},
		{"(rule a 0 (b) => (drop 1) (drop 1))", 0, 0, 0},
	} {
		if got := checkOf(t, row.text); got != (impl.Check{Code: row.code, Rule: row.rule, Item: row.item}) {
			t.Errorf("%s: %+v", row.text, got)
		}
	}
}

// questions has a spoil for each question, in the document's order; all of them
// can be done to one rule.
func questions() []spoil {
	return []spoil{
		{"shape", func(r *impl.Rule) { r.Name += "A" }, impl.CheckShape, 0},
		{"first pattern", func(r *impl.Rule) { r.Pats[0].Terms[0].Op = 1 }, impl.CheckShape, 1},
		{"second pattern", func(r *impl.Rule) { r.Pats[1].Cls = "not" }, impl.CheckShape, 2},
		{"first expr", func(r *impl.Rule) { r.Exprs[0].A = 1 }, impl.CheckShape, 1},
		{"third expr", func(r *impl.Rule) { r.Exprs[2].Op = '<' }, impl.CheckShape, 3},
		{"first action", func(r *impl.Rule) { r.Acts[0].Cls = "" }, impl.CheckShape, 1},
		{"third action", func(r *impl.Rule) { r.Acts[2].K = 1000001 }, impl.CheckShape, 3},
		{"exprs left", func(r *impl.Rule) { r.Exprs = append(r.Exprs, impl.Expr{}) }, impl.CheckShape, 6},
		{"name", func(r *impl.Rule) { r.Name = strings.Replace(r.Name, "rich", "other", 1) }, impl.CheckName, 0},
		{"positives", func(r *impl.Rule) { r.Pats[0].Neg, r.Pats[2].Neg = true, true }, impl.CheckPos, 0},
		{"variable of a pattern", func(r *impl.Rule) { r.Pats[0].Terms[5].Var = "q" }, impl.CheckVar, 1},
		{"variable of a later pattern", func(r *impl.Rule) { r.Pats[2].Terms[1] = testVar(impl.OpEq, "y") }, impl.CheckVar, 3},
		{"variable of an action", func(r *impl.Rule) { r.Exprs[7].Var = "y" }, impl.CheckVar, 4},
		{"reference of the third action", func(r *impl.Rule) {
			if r.Acts[2].K == 2 {
				r.Acts[2].K = 3
			}
		}, impl.CheckRef, 6},
		{"reference of the fourth action", func(r *impl.Rule) { r.Acts[3].K = 0 }, impl.CheckRef, 7},
	}
}

// Of two faults of a rule that one is told whose question comes first.
func TestOrderOfQuestions(t *testing.T) {
	other := impl.Rule{Name: "other", Pats: []impl.Pattern{positive("a")}}
	list := questions()
	for i, first := range list {
		for _, second := range append(list[i+1:len(list):len(list)], first) {
			a, b := richRule(), richRule()
			first.do(&a)
			second.do(&a)
			second.do(&b)
			first.do(&b)
			want := impl.Check{Code: first.code, Rule: 1, Item: first.item}
			wantCheck(t, first.name+" and "+second.name, []impl.Rule{other, a, {}}, want)
			wantCheck(t, second.name+" and "+first.name, []impl.Rule{other, b, {}}, want)
		}
	}
}

// All questions of a rule come ahead of those of the next.
func TestOrderOfRules(t *testing.T) {
	other := impl.Rule{Name: "other", Pats: []impl.Pattern{positive("a")}}
	for _, s := range questions() {
		r := richRule()
		s.do(&r)
		broken := impl.Rule{Name: "Broken", Pats: make([]impl.Pattern, 9)}
		wantCheck(t, s.name, []impl.Rule{other, r, broken}, impl.Check{Code: s.code, Rule: 1, Item: s.item})
		wantCheck(t, s.name, []impl.Rule{broken, other, r}, impl.Check{Code: impl.CheckShape})
		if out := impl.PrintRules([]impl.Rule{other, r}); len(out) != 0 {
			t.Errorf("%s: printed %q", s.name, out)
		}
	}
}
