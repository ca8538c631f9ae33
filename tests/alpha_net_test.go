package tests

import (
	"fmt"
	"slices"
	"strings"
	"testing"

	"loop.example/s01311/impl"
)

func splitWords(text string) []string { return strings.Fields(text) }

// showNet writes the Alphas and the numbers of each rule.
func showNet(n impl.Net) string {
	var parts []string
	for _, a := range n.Alphas {
		parts = append(parts, showAlpha(a))
	}
	return strings.Join(parts, "; ") + fmt.Sprint(" ", n.Of)
}

func TestNets(t *testing.T) {
	for _, row := range [][2]string{
		{"", " []"},
		{"(rule p 0 (a) =>)", "a/0 [[0]]"},
		{"(rule p 0 (b) (a) =>)", "b/0; a/0 [[0 1]]"},
		{"(rule p 0 (b) (a) (b) =>)", "b/0; a/0 [[0 1 0]]"},
		// A negated pattern and a positive one may ask the same.
		{"(rule p 0 (not b 1) (a) (b 1) =>)", "b/1 0=1; a/0 [[0 1 0]]"},
		// Names of variables are no part of an Alpha.
		{"(rule p 0 (a ?x ?x) (a ?y ?y) (a ?x ?y) (not a ?y ?x) =>)", "a/2 1=@0; a/2 [[0 0 1 1]]"},
		{"(rule p 0 (a _) (a ?x) (a (> ?x)) =>)", "a/1 [[0 0 0]]"},
		// A constant asks what a test for equality asks.
		{"(rule p 0 (a 3) (a (= 3)) (a (!= 3)) =>)", "a/1 0=3; a/1 0!=3 [[0 0 1]]"},
		{"(rule p 0 (a) (a _) (a 0) =>)", "a/0; a/1; a/1 0=0 [[0 1 2]]"},
		{"(rule p 0 (a x) (a 0) (b x) =>)", "a/1 0=x; a/1 0=0; b/1 0=x [[0 1 2]]"},
		{"(rule p 0 (a 1 _) (a _ 1) =>)", "a/2 0=1; a/2 1=1 [[0 1]]"},
		{"(rule p 0 (a ?x ?y ?x) (a ?x ?y ?y) =>)", "a/3 2=@0; a/3 2=@1 [[0 1]]"},
		{"(rule p 0 (a ?x (> ?x)) (a ?y (< ?y)) =>)", "a/2 1>@0; a/2 1<@0 [[0 1]]"},
		{"(rule p 0 (a 1) =>)(rule q 0 (b 1) (a 1) =>)(rule r 0 (c) (b 1) (not c) =>)", "a/1 0=1; b/1 0=1; c/0 [[0] [1 0] [2 1 2]]"},
		{"(rule p 0 (a _ _ _ _ _ _) (a 1 2 3 4 5 6) (a _ _ _ _ _ 6) =>)", "a/6; a/6 0=1 1=2 2=3 3=4 4=5 5=6; a/6 5=6 [[0 1 2]]"},
	} {
		if got := showNet(impl.AlphaNet(checkedRules(t, row[0]))); got != row[1] {
			t.Errorf("%s: %s, asked for %s", row[0], got, row[1])
		}
	}
}

// As many rules and patterns as there may be, all Alphas different or all one.
func TestGreatNets(t *testing.T) {
	n := impl.AlphaNet(checkedRules(t, times(impl.MaxRules, "(rule r# 0 (a# 0)(not a# 1)(a# 2)(not a# 3)(a# 4)(not a# 5) =>)")))
	if len(n.Alphas) != impl.MaxRules*impl.MaxPats || len(n.Of) != impl.MaxRules {
		t.Fatal(len(n.Alphas), len(n.Of))
	}
	for i, numbers := range n.Of {
		for k, number := range numbers {
			if number != i*impl.MaxPats+k || showAlpha(n.Alphas[number]) != fmt.Sprintf("a%d/1 0=%d", i, k) {
				t.Errorf("rule %d, pattern %d: %d", i, k, number)
			}
		}
	}
	n = impl.AlphaNet(checkedRules(t, times(impl.MaxRules, "(rule r# 0 (a 0)(not a 0)(a 0)(not a 0)(a 0)(not a 0) =>)")))
	if len(n.Alphas) != 1 || len(n.Of) != impl.MaxRules || !same(n.Of[15], []int{0, 0, 0, 0, 0, 0}) {
		t.Error(showNet(n))
	}
}

func TestNetsOfUncheckedRules(t *testing.T) {
	for name, rules := range uncheckedRules(t) {
		if n := impl.AlphaNet(rules); len(n.Alphas) != 0 || len(n.Of) != 0 {
			t.Errorf("%s: %s", name, showNet(n))
		}
	}
}

func TestMemories(t *testing.T) {
	for _, row := range [][3]string{
		{"(a)", "", "[[]]"},
		{"(a _)", "a 1; a 2; b 1; a; a x", "[[1 2 5]]"},
		{"(a _)", "7: a 1; 9: a 1; 1000000: a 1", "[[7 9 1000000]]"},
		{"(a 1) (a 2) (not b ?x (> ?x))", "a 1; a 2; b 1 2; a 1; b 2 1; b 0 1; a 3", "[[1 4] [2] [3 6]]"},
		{"(a ?x) (b (> ?x)) (a _)", "b 1; a 1", "[[2] [1]]"},
		{"(a ?x ?x) (a ?x ?y)", "a 1 1; a 1 2; a x x; a x 1", "[[1 3] [1 2 3 4]]"},
	} {
		n := impl.AlphaNet([]impl.Rule{ruleOf(t, row[0])})
		if got := fmt.Sprint(impl.AlphaMems(n, factsOf(t, row[1]))); got != row[2] {
			t.Errorf("%s over %s: %s, asked for %s", row[0], row[1], got, row[2])
		}
	}
	n := impl.AlphaNet(checkedRules(t, "(rule p 0 (a (< 20)) (a _) =>)"))
	m := impl.AlphaMems(n, manyFacts(impl.MaxFacts))
	if len(m) != 2 || len(m[0]) != 20 || len(m[1]) != impl.MaxFacts || m[1][39] != 40 {
		t.Error(m)
	}
}

func TestMemoriesOfFactsThatAreNotGood(t *testing.T) {
	n := impl.AlphaNet(checkedRules(t, "(rule p 0 (a _) (b) =>)"))
	for name, facts := range badFacts() {
		if m := impl.AlphaMems(n, facts); len(m) != 0 {
			t.Errorf("%s: %v", name, m)
		}
	}
}

// A Net that no AlphaNet tells is taken Alpha by Alpha; what is in Of counts for
// nothing.
func TestMemoriesOfOtherNets(t *testing.T) {
	facts := factsOf(t, "a 1; a 2; b")
	any := impl.Alpha{Cls: "a", Arity: 1}
	wrong := impl.Alpha{Cls: "a", Arity: 1, Tests: []impl.AlphaTest{{Slot: 1, Op: impl.OpEq, Other: -1}}}
	twice := impl.Alpha{Cls: "a", Arity: 1, Tests: []impl.AlphaTest{{Slot: 0, Op: impl.OpGe, Other: 0}, {Slot: 0, Op: impl.OpLt, Other: -1, Val: number(2)}}}
	many := impl.Alpha{Cls: "a", Arity: 1, Tests: slices.Repeat([]impl.AlphaTest{{Slot: 0, Op: impl.OpEq, Other: 0}}, 50)}
	for _, row := range []struct {
		net  impl.Net
		want string
	}{
		{impl.Net{}, "[]"},
		{impl.Net{Of: [][]int{{0, 1}, {-1}, nil}}, "[]"},
		{impl.Net{Alphas: []impl.Alpha{any, any, {}}}, "[[1 2] [1 2] []]"},
		{impl.Net{Alphas: []impl.Alpha{any, wrong, twice, many}, Of: [][]int{{9, -4}}}, "[[1 2] [] [1] [1 2]]"},
		{impl.Net{Alphas: []impl.Alpha{{Cls: "b", Arity: 0}, {Cls: "b", Arity: -1}, {Cls: "", Arity: 0}}}, "[[3] [] []]"},
	} {
		if got := fmt.Sprint(impl.AlphaMems(row.net, facts)); got != row.want {
			t.Errorf("%+v: %s, asked for %s", row.net, got, row.want)
		}
	}
	if m := impl.AlphaMems(impl.Net{Alphas: make([]impl.Alpha, 5000)}, facts); len(m) != 5000 {
		t.Error(len(m))
	}
}
